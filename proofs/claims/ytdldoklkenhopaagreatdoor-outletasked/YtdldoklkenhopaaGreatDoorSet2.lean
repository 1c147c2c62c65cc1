/-
  Memory: blocks of cells, fields in memory, rows of texts and of fields: what is read, what is appended, what stays; two fields held against each other.
  Contracts of the library's Cut, CutSuffix and Contains at one byte, and of Clone.
  Contracts of the library's CutSuffix and Contains at the byte 13, and of Clone.
  Contracts of the library's strings.Trim at a blank and a tab, of trim of package field, and of Trim of the document's answers.
  Contracts of the library's strings.Trim at a blank and a tab, of trim of package field, and of Trim of the document's answers: the end of it.
  Contracts of Parse and Print of package field.
  Contracts of lineAt and startOf of package field.
-/
import Derived.Test.YtdldoklkenhopaaGreatDoorSet1
import Derived.StillTailTactics
import Derived.Laws.Rows
import Derived.Laws.CopyRow
import Derived.Laws.StructEq
import Derived.Stop.BytesEq
import Derived.Great.BuildSlice
import Derived.Deep.Slices
import Derived.Deep.WholeRow
import Derived.SliceStrings
import Derived.Deep.RegionHeld3
import Derived.Deep.DeepCutAuto
import Derived.BigQuiet
import Derived.Lib.BufferWrite
import Derived.Lib.AsciiSet
section
namespace Go.Proofs.YtdldoklkenhopaaGreatDoor.Fi
open Go.RowKit Go.PlainAid
open Hx
set_option linter.unusedVariables false
set_option maxRecDepth 20000
set_option linter.unusedSimpArgs false

theorem add_at (B o j : Nat) : (⟨B, o, none⟩ : Addr).add j = ⟨B, o + j, none⟩ := by unfold Addr.add; split <;> simp_all
theorem add_block (a : Addr) (j : Nat) : (a.add j).block = a.block := by unfold Addr.add; split <;> rfl
theorem size_of {P : Program} {t : TypeId} {n : Nat} (h : (P.info? t).map (·.size) = some n) (w : World) : (sizeOf t).run P w = .ok n w := by
  cases hq : P.info? t with
  | none => simp [hq] at h
  | some i => simp [hq] at h; simp [sizeOf, typeInfo, hq, h]
theorem load_part {P : Program} {w : World} {B : Nat} {cs : Array Value} {T : Nat} {fr : Nat × Nat} (hg : w.heap[B]? = some (.cells cs T fr)) (o n : Nat) (ho : o + n ≤ cs.size) :
    (loadCellsFrom ⟨B, o, none⟩ 0 n #[]).run P w = .ok (cs.extract o (o + n)) w := by
  have := run_loadCells_list (P := P) w ⟨B, o, none⟩ (cs.extract o (o + n)).toList (fun j v hv => by
    rw [add_at, cell_of_row _ _ _ _ _ _ hg]
    have hj : j < n := by
      have := List.getElem?_eq_some_iff.1 hv
      obtain ⟨h, _⟩ := this
      simp at h; omega
    simpa [Array.getElem?_extract, hj, show o + j < o + n by omega] using hv)
  have hs : (cs.extract o (o + n)).toList.length = n := by simp; omega
  rw [hs, Array.toArray_toList] at this
  exact this
def aggOf (P : Program) (t : TypeId) : Bool := match P.underlying t with | some (.struct _) => true | some (.array _ _) => true | _ => false
theorem run_isAgg {P : Program} {t : TypeId} (h : aggOf P t = true) (w : World) : (isAgg t).run P w = .ok true w := by
  unfold aggOf at h
  split at h <;> first | (rename_i hu; unfold isAgg; rw [Sem.run_bind, run_underlying hu w]; simp) | cases h
def Loads (P : Program) (w : World) (ty : TypeId) (a : Addr) (cs : Array Value) : Prop := (loadVar ty a).run P w = .ok (.agg cs) w
def Stores (P : Program) (w : World) (ty : TypeId) (B off : Nat) (cs : Array Value) (w' : World) : Prop := (storeVar ty ⟨B, off, none⟩ (.agg cs)).run P w = .ok () w'
section
variable {P : Program} {ops : Array Oper} {rest : List Oper} {o : Oper} {a : Act} {w w' : World} {Q : Exit → Act → World → Prop} {ty : TypeId} {x y : Operand} {ad : Addr} {B off : Nat} {cs : Array Value}
theorem wpl_load (hl : Loads P w ty ad cs) (hgd : o.guard = none) (hop : o.op = .load ty x) (hx : a.eval x = .pointer (some ad)) (h : wpList P ops Q rest (a.put o.dst (.agg cs)) w) : wpList P ops Q (o :: rest) a w :=
  wpList_plain hgd fun _ hK => by
    unfold Oper.wp execOp
    simp only [hop, hx, Instr.loadAt, Instr.sureAddr, Sem.run_bind, Sem.run_pure, Result.andThen_ok, show (loadVar ty ad).run P w = .ok (.agg cs) w from hl]
    exact hK _ _ h
theorem wpl_load_in (hl : Loads P w ty ad cs) (hw : Region.wanted o (yielded ops a.tmps) = true) (hop : o.op = .load ty x) (hx : a.eval x = .pointer (some ad)) (h : wpList P ops Q rest (a.put o.dst (.agg cs)) w) : wpList P ops Q (o :: rest) a w := by
  refine wpList_step fun K hK => ?_
  rw [if_pos hw]
  unfold Oper.wp execOp
  simp only [hop, hx, Instr.loadAt, Instr.sureAddr, Sem.run_bind, Sem.run_pure, Result.andThen_ok, show (loadVar ty ad).run P w = .ok (.agg cs) w from hl]
  exact hK _ _ h
theorem wpl_store (hl : Stores P w ty B off cs w') (hgd : o.guard = none) (hop : o.op = .store ty x y) (hd : o.dst = none) (hx : a.eval x = .pointer (some ⟨B, off, none⟩)) (hy : a.eval y = .agg cs) (h : wpList P ops Q rest a w') : wpList P ops Q (o :: rest) a w :=
  wpList_plain hgd fun _ hK => by
    unfold Oper.wp execOp
    simp only [hop, hx, hy, Instr.storeAt, Instr.sureAddr, Sem.run_bind, Sem.run_pure, Result.andThen_ok, show (storeVar ty ⟨B, off, none⟩ (.agg cs)).run P w = .ok () w' from hl]
    refine hK _ _ ?_
    rw [hd]
    exact h
theorem wps_load {Q : Act → Prop} (hl : Loads P w ty ad cs) (hgd : o.guard = none) (hop : o.op = .load ty x) (hx : a.eval x = .pointer (some ad)) (h : wpStill P ops w Q rest (a.put o.dst (.agg cs))) : wpStill P ops w Q (o :: rest) a := by
  refine wpStill_step fun K hK => ?_
  rw [if_pos (by simp [Region.wanted, hgd])]
  unfold Oper.still execOp
  simp only [hop, hx, Instr.loadAt, Instr.sureAddr, Sem.run_bind, Sem.run_pure, Result.andThen_ok, show (loadVar ty ad).run P w = .ok (.agg cs) w from hl]
  exact ⟨rfl, hK _ h⟩
theorem yields_load {S : World → Prop} {oi : Oper} (hl : ∀ w, S w → Loads P w ty ad cs) (hw : Region.wanted oi (yielded ops a.tmps) = true) (hop : oi.op = .load ty x) (hx : a.eval x = .pointer (some ad)) : YieldsIf P ops S oi (.agg cs) a := by
  refine Or.inl ⟨hw, fun w hS => ?_⟩
  unfold execOp
  simp only [hop, hx, Instr.loadAt, Instr.sureAddr, Sem.run_bind, Sem.run_pure, Result.andThen_ok, show (loadVar ty ad).run P w = .ok (.agg cs) w from hl w hS]
theorem loads_part {cur : Array Value} {T n : Nat} {fr : Nat × Nat} (hg : w.heap[B]? = some (.cells cur T fr)) (ha : aggOf P ty = true) (hi : (P.info? ty).map (·.size) = some n) (ho : off + n ≤ cur.size) : Loads P w ty ⟨B, off, none⟩ (cur.extract off (off + n)) := by
  unfold Loads loadVar
  have hl := load_part (P := P) hg off n ho
  have hz := size_of hi w
  simp only [Sem.run_bind, run_isAgg ha w, Result.andThen_ok, if_true, hz, loadCells, hl]
  rfl
theorem stores_part {cur : Array Value} {T : Nat} (hg : w.heap[B]? = some (.cells cur T (0, 0))) (hi : (P.info? ty).map (·.size) = some cs.size) (ho : off + cs.size ≤ cur.size) (h1 : ∀ v ∈ cs.toList, v.oneCell' = true) :
    Stores P w ty B off cs (w.setRow B (cur.toList.take off ++ cs.toList ++ cur.toList.drop (off + cs.size)).toArray) := by
  unfold Stores storeVar
  have hz := size_of hi w
  have hs := run_storeCells_at (P := P) B off T cs.toList 0 cur w hg (by simpa using ho) h1
  simp only [Nat.add_zero, Array.length_toList] at hs
  simp only [Sem.run_bind, hz, Result.andThen_ok, Value.cells, ne_eq, not_true_eq_false, if_false, hs]
theorem heap_setRow_other {C : Nat} (hc : C ≠ B) : (w.setRow B cs).heap[C]? = w.heap[C]? := by
  simp only [World.setRow, Array.getElem?_modify]
  rw [if_neg (by omega)]
theorem below_row {N : Nat} {w0 : World} (h : Below N w0 w) (hB : N ≤ B) : Below N w0 (w.setRow B cs) :=
  h.trans ⟨rfl, rfl, rfl, by simp, fun k hk => heap_setRow_other (by omega)⟩
theorem below_set {N : Nat} {w0 : World} (h : Below N w0 w) (j : Nat) (v : Value) (hB : N ≤ B := by exact Nat.le_refl _) : Below N w0 (w.setCell ⟨B, j, none⟩ v) :=
  h.trans ⟨rfl, rfl, rfl, by simp, fun k hk => Below.heap_setCell _ _ _ _ (by show k ≠ B; omega)⟩
theorem heap_set (w : World) (B j : Nat) (v : Value) (cs : Array Value) (t : TypeId) (fr : Nat × Nat) (h : w.heap[B]? = some (.cells cs t fr)) :
    (w.setCell ⟨B, j, none⟩ v).heap[B]? = some (.cells (cs.setIfInBounds j v) t fr) := by
  simp [World.setCell, Array.getElem?_modify, h]
end

/-- block B holds the cells cs of type T, which may be written -/
structure At (w : World) (B T : Nat) (cs : Array Value) : Prop where
  heap : w.heap[B]? = some (.cells cs T (0, 0))
section
variable {P : Program} {w w' : World} {B T : Nat} {cs : Array Value}
theorem At.lt (h : At w B T cs) : B < w.heap.size := (Array.getElem?_eq_some_iff.1 h.heap).1
theorem At.same (h : At w B T cs) (e : w'.heap[B]? = w.heap[B]?) : At w' B T cs := ⟨by rw [e]; exact h.heap⟩
theorem At.below {N : Nat} (h : At w B T cs) (hb : Below N w w') (hN : B < N) : At w' B T cs := h.same (hb.block B hN)
theorem At.old (h : At w B T cs) (hb : Below w.heap.size w w') : At w' B T cs := h.below hb h.lt
theorem At.alloc (h : At w B T cs) (o : Obj) : At (w.alloc o) B T cs := h.same (Below.heap_alloc _ _ _ h.lt)
theorem At.drew (h : At w B T cs) : At w.drew B T cs := ⟨h.heap⟩
theorem At.other (h : At w B T cs) {a : Addr} (ha : B ≠ a.block) (v : Value) : At (w.setCell a v) B T cs := h.same (Below.heap_setCell _ _ _ _ ha)
theorem At.rowOther {C : Nat} {ds : Array Value} (h : At w C T cs) (hc : C ≠ B) : At (w.setRow B ds) C T cs := h.same (heap_setRow_other hc)
theorem At.new (w : World) (T : Nat) (cs : Array Value) : At (w.alloc (.cells cs T)) w.heap.size T cs := ⟨heap_alloc_new w _⟩
theorem At.cell (h : At w B T cs) (j : Nat) : w.cell? ⟨B, j, none⟩ = cs[j]? := cell_of_row _ _ _ _ _ _ h.heap
theorem At.frozen (h : At w B T cs) (j : Nat) : w.frozen? ⟨B, j, none⟩ = false := frozen_of_row _ _ _ _ _ h.heap
theorem At.set (h : At w B T cs) (j : Nat) (v : Value) : At (w.setCell ⟨B, j, none⟩ v) B T (cs.setIfInBounds j v) := ⟨heap_set _ _ _ _ _ _ _ h.heap⟩
theorem At.row (h : At w B T cs) (ds : Array Value) : At (w.setRow B ds) B T ds := ⟨setRow_heap w B _ _ T _ h.heap⟩
theorem At.loads {ty : TypeId} (h : At w B T cs) (ha : aggOf P ty = true) (hi : (P.info? ty).map (·.size) = some cs.size) : Loads P w ty ⟨B, 0, none⟩ cs := by
  have := loads_part (off := 0) h.heap ha hi (by simp)
  simpa using this
theorem At.stores {ty : TypeId} {ds : Array Value} (h : At w B T cs) (hi : (P.info? ty).map (·.size) = some ds.size) (hs : ds.size = cs.size) (h1 : ∀ v ∈ ds.toList, v.oneCell' = true) : Stores P w ty B 0 ds (w.setRow B ds) := by
  have := stores_part (P := P) (ty := ty) (off := 0) (cs := ds) h.heap hi (by omega) h1
  have e : (cs.toList.take 0 ++ ds.toList ++ cs.toList.drop (0 + ds.size)).toArray = ds := by
    rw [Nat.zero_add, hs, List.drop_of_length_le (by simp)]
    simp
  rw [e] at this
  exact this
/-- a variable that is made and filled -/
theorem keep {ty : TypeId} (w : World) (z ds : Array Value) (T : Nat) (hi : (P.info? ty).map (·.size) = some ds.size) (hs : ds.size = z.size) (h1 : ∀ v ∈ ds.toList, v.oneCell' = true) :
    ∃ X, Stores P (w.alloc (.cells z T)) ty w.heap.size 0 ds X ∧ At X w.heap.size T ds ∧ Below w.heap.size w X ∧ X.heap.size = w.heap.size + 1 :=
  ⟨_, (At.new w T z).stores hi hs h1, (At.new w T z).row ds, below_row ((Below.refl _ _).alloc (Nat.le_refl _) _) (Nat.le_refl _), by simp⟩
end

/-! ### regions that draw, under an invariant -/
section
variable {P : Program} {md : Region.Mode} {ops : Array Oper} {Q : Exit → Act → World → Prop} {S : World → Prop} {i fuel : Nat} {listed : Array Bool} {a : Act} {w : World} {oi : Oper}
theorem held_take (i : Nat) (v : Value) (hi : ops[i]? = some oi) (hs : Region.noSelect ops = true) (hf : Region.free md ops listed i = true) (hr : (Region.ready md ops listed).contains i = true)
    (hQ : ∀ c a w, Q (.panic c) (a.put oi.dst v) w → Q (.panic c) a w) (hy : YieldsIf P ops S oi v a) (hS : S w)
    (h : ∀ K : Act → World → Prop, (∀ a w, wpAnyH P md ops Q S fuel (listed.setIfInBounds i true) a w → K a w) → K (a.put oi.dst v) w) : wpAnyH P md ops Q S (fuel + 1) listed a w :=
  wpAnyH_take hi hs hf hr hQ hy hS (h _ fun _ _ h => h)
theorem held_one (i : Nat) (hr : Region.ready md ops listed = [i])
    (h1 : ∀ K : Act → World → Prop, (∀ a w, S w → wpAnyH P md ops Q S fuel (listed.setIfInBounds i true) a w → K a w) → wpOp P ops Q i K a w) : wpAnyH P md ops Q S (fuel + 1) listed a w :=
  wpAnyH_all hr (by simp) (by intro k hk; simp at hk; subst hk; exact h1 _ fun _ _ hs h => ⟨hs, h⟩)
theorem wpOp_in {K : Act → World → Prop} (hi : ops[i]? = some oi) (hw : Region.wanted oi (yielded ops a.tmps) = true) (h : oi.wp P a w K Q) : wpOp P ops Q i K a w := by
  unfold wpOp
  simp only [hi]
  rw [if_pos hw]
  exact Or.inl h
end

/-! ### fields -/
def fdL (f : Fd) : List Value := [.string f.n, .string f.v]
def fdV (f : Fd) : Array Value := #[.string f.n, .string f.v]
theorem fdV_size (f : Fd) : (fdV f).size = 2 := rfl
theorem fdV_list (f : Fd) : (fdV f).toList = fdL f := rfl
theorem fd0 (f : Fd) : (fdV f)[0]? = some (.string f.n) := rfl
theorem fd1 (f : Fd) : (fdV f)[1]? = some (.string f.v) := rfl
theorem fdL_one (f : Fd) : ∀ v ∈ fdL f, v.oneCell' = true := by
  intro v hv
  simp [fdL] at hv
  rcases hv with rfl | rfl <;> rfl
theorem fdV_one (f : Fd) : ∀ v ∈ (fdV f).toList, v.oneCell' = true := fdL_one f
theorem part_one {P : Program} {t : TypeId} {cs : Array Value} {off : Nat} {v : Value} {d : TypeDesc} (hu : P.underlying t = some d) (hd : (match d with | .struct _ | .array _ _ => true | _ => false) = false) (h : cs[off]? = some v) (w : World) : (part t cs off).run P w = .ok v w := by
  unfold part isAgg
  simp only [Sem.run_bind, run_underlying hu w, Result.andThen_ok, h]
  cases d <;> simp_all
theorem toList_eq_iff (a b : ByteArray) : (a.toList == b.toList) = true ↔ a = b := by
  rw [beq_iff_eq, ByteArray.toList_eq, ByteArray.toList_eq, Array.toList_inj]
  exact ⟨fun h => ByteArray.ext h, fun h => by rw [h]⟩
open Classical in
theorem eq_fd (x y : Fd) (w : World) : (Op.equalIn 10000 26 (.agg (fdV x)) (.agg (fdV y))).run Tryz.prog w = .ok (decide (x = y)) w := by
  have hf : (Tryz.prog.fieldsOf 26).toList = [⟨ "Name", 9, 0, false, "", "", 0⟩, ⟨ "Value", 9, 1, false, "", "", 16⟩] := by kernel_rfl
  rw [run_equalIn_struct w 9999 26 (fdV x) (fdV y) (by kernel_rfl) (by kernel_rfl), hf]
  clear hf
  have p0 := fun z : Fd => part_one (P := Tryz.prog) Tryz.underlying9 rfl (fd0 z)
  have p1 := fun z : Fd => part_one (P := Tryz.prog) Tryz.underlying9 rfl (fd1 z)
  have q0 := run_equalIn_string (P := Tryz.prog) w 9998 9 x.n y.n Tryz.underlying9
  have q1 := run_equalIn_string (P := Tryz.prog) w 9998 9 x.v y.v Tryz.underlying9
  simp only [Op.eqFields, Sem.run_bind, Sem.run_ite, Sem.run_pure, Result.andThen_ok, p0, p1, q0, q1, if_true]
  have t : ∀ (a b : ByteArray), (a.toList == b.toList) = decide (a = b) := fun a b => by
    rw [Bool.eq_iff_iff, toList_eq_iff, decide_eq_true_iff]
  simp only [t]
  have e : x = y ↔ x.n = y.n ∧ x.v = y.v := by
    cases x; cases y; simp
  have e' : decide (x = y) = decide (x.n = y.n ∧ x.v = y.v) := decide_eq_decide.2 e
  rw [e']
  by_cases a0 : x.n = y.n <;> by_cases a1 : x.v = y.v <;> simp [a0, a1]
/-- a field that is laid into a variable -/
theorem fd_keep (w : World) (f : Fd) :
    ∃ X, Stores Tryz.prog (w.alloc (.cells #[.string ⟨#[]⟩, .string ⟨#[]⟩] 26)) 26 w.heap.size 0 (fdV f) X ∧ At X w.heap.size 26 (fdV f) ∧ Below w.heap.size w X ∧ X.heap.size = w.heap.size + 1 :=
  keep w _ (fdV f) 26 (by rw [fdV_size]; kernel_rfl) rfl (fdV_one f)
theorem fd_loads {w : World} {B : Nat} {f : Fd} (h : At w B 26 (fdV f)) : Loads Tryz.prog w 26 ⟨B, 0, none⟩ (fdV f) :=
  h.loads (by kernel_rfl) (by rw [fdV_size]; kernel_rfl)

/-! ### rows of texts -/
theorem owns_below {w w' : World} {B e sz : Nat} {v : Value} {n : Nat} {xs : List Value} (h : w.ownsRow B e sz v n xs) (hb : Below w.heap.size w w') : w'.ownsRow B e sz v n xs := by
  refine h.kept (row := none) ⟨hb.os, hb.tape, hb.output, hb.size, fun k hk _ => hb.block k hk⟩ ?_
  cases v.ownBlock <;> simp
/-- v reads as the texts ss in w -/
structure StrsAt (w : World) (v : Value) (ss : List ByteArray) : Prop where
  is : ∃ base cap, v = .slice base ss.length cap ∧ ss.length ≤ cap ∧ ∀ j s, ss[j]? = some s → ∃ a : Addr, base = some a ∧ a.block < w.heap.size ∧ w.cell? (a.add j) = some (.string s)
theorem none_strs (w : World) : StrsAt w (.slice none 0 0) [] := ⟨none, 0, rfl, Nat.le_refl _, by simp⟩
theorem StrsAt.below {w x : World} {v : Value} {ss : List ByteArray} (hv : StrsAt w v ss) (hb : Below w.heap.size w x) : StrsAt x v ss := by
  obtain ⟨base, cap, rfl, hl, hc⟩ := hv.is
  refine ⟨base, cap, rfl, hl, fun j s hs => ?_⟩
  obtain ⟨a, rfl, ha, hcell⟩ := hc j s hs
  refine ⟨a, rfl, Nat.lt_of_lt_of_le ha hb.size, ?_⟩
  rw [World.cell?_of_block (w := w) (by rw [add_block]; exact hb.block _ ha)]
  exact hcell
def strsL (ss : List ByteArray) : List Value := ss.map Value.string
theorem strsL_snoc (ss : List ByteArray) (s : ByteArray) : strsL (ss ++ [s]) = strsL ss ++ [.string s] := by simp [strsL]
theorem strsL_len (ss : List ByteArray) : (strsL ss).length = ss.length := by simp [strsL]
theorem owns_strs {w : World} {B : Nat} {v : Value} {ss : List ByteArray} (h : w.ownsRow B 9 1 v ss.length (strsL ss)) : StrsAt w v ss := by
  rcases h.2 with ⟨rfl, h0⟩ | ⟨g, cap, cur, rfl, _, hg, hc, _⟩
  · have : ss = [] := List.eq_nil_of_length_eq_zero h0
    subst this
    exact none_strs w
  · refine ⟨some ⟨g, 0, none⟩, cap, rfl, hc, fun j s hj => ⟨_, rfl, (Array.getElem?_eq_some_iff.1 hg).1, ?_⟩⟩
    exact h.cells (g := g) rfl j _ (by simp [strsL, hj])

/-! ### rows of fields -/
structure FdsAt (w : World) (v : Value) (xs : List Fd) : Prop where
  is : ∃ base cap, v = .slice base xs.length cap ∧ xs.length ≤ cap ∧ ∀ j x, xs[j]? = some x → ∃ a : Addr, base = some a ∧ a.block < w.heap.size ∧ ∀ i c, (fdL x)[i]? = some c → w.cell? ((a.add (j * 2)).add i) = some c
theorem none_fds (w : World) : FdsAt w (.slice none 0 0) [] := ⟨none, 0, rfl, Nat.le_refl _, by simp⟩
theorem FdsAt.below {w w' : World} {v : Value} {xs : List Fd} (h : FdsAt w v xs) (hb : Below w.heap.size w w') : FdsAt w' v xs := by
  obtain ⟨base, cap, rfl, hl, hc⟩ := h.is
  refine ⟨base, cap, rfl, hl, fun j x hj => ?_⟩
  obtain ⟨a, rfl, ha, hcell⟩ := hc j x hj
  refine ⟨a, rfl, Nat.lt_of_lt_of_le ha hb.size, fun i c hi => ?_⟩
  rw [World.cell?_of_block (w := w) (by rw [add_block, add_block]; exact hb.block _ ha)]
  exact hcell i c hi
theorem loads_fd {w : World} {a : Addr} {x : Fd} (h : ∀ i c, (fdL x)[i]? = some c → w.cell? (a.add i) = some c) : Loads Tryz.prog w 26 a (fdV x) := by
  unfold Loads loadVar
  have hl := run_loadCells_list (P := Tryz.prog) w a (fdL x) (fun j v hv => h j v hv)
  have hz : (sizeOf 26).run Tryz.prog w = .ok 2 w := size_of (by kernel_rfl) w
  rw [show (fdL x).length = 2 from rfl] at hl
  simp only [Sem.run_bind, run_isAgg (P := Tryz.prog) (t := 26) (by kernel_rfl) w, Result.andThen_ok, if_true, hz]
  rw [hl]
  rfl
theorem FdsAt.loads {w : World} {base : Option Addr} {n cap : Nat} {xs : List Fd} (h : FdsAt w (.slice base n cap) xs) {j : Nat} {x : Fd} (hj : xs[j]? = some x) : ∃ a : Addr, base = some a ∧ a.block < w.heap.size ∧ Loads Tryz.prog w 26 (a.add (j * 2)) (fdV x) ∧ w.cell? (a.add (j * 2)) = some (.string x.n) ∧ w.cell? (a.add (j * 2 + 1)) = some (.string x.v) := by
  obtain ⟨base', cap', e, hl, hc⟩ := h.is
  injection e with e1 e2 e3
  subst e1
  obtain ⟨a, rfl, ha, hcell⟩ := hc j x hj
  have add_add : ∀ p q : Nat, (a.add p).add q = a.add (p + q) := by
    intro p q
    simp only [Addr.add]
    split <;> split <;> simp_all <;> omega
  refine ⟨a, rfl, ha, loads_fd hcell, ?_, ?_⟩
  · have := hcell 0 (.string x.n) rfl
    rwa [add_add] at this
  · have := hcell 1 (.string x.v) rfl
    rwa [add_add] at this
theorem FdsAt.len {w : World} {base : Option Addr} {n cap : Nat} {xs : List Fd} (h : FdsAt w (.slice base n cap) xs) : n = xs.length ∧ n ≤ cap := by
  obtain ⟨base', cap', e, hl, hc⟩ := h.is
  injection e with e1 e2 e3
  subst e2 e3
  exact ⟨rfl, hl⟩
def fdsL (xs : List Fd) : List Value := (xs.map fdL).flatten
theorem fdsL_snoc (xs : List Fd) (x : Fd) : fdsL (xs ++ [x]) = fdsL xs ++ fdL x := by simp [fdsL]
theorem fdsL_at : ∀ (xs : List Fd) (j i : Nat) (x : Fd) (c : Value), xs[j]? = some x → (fdL x)[i]? = some c → (fdsL xs)[j * 2 + i]? = some c
  | [], j, i, x, c, h, _ => by simp at h
  | y :: xs, 0, i, x, c, h, hi => by
    simp at h
    subst h
    have : i < (fdL y).length := (List.getElem?_eq_some_iff.1 hi).1
    simp only [fdsL, List.map_cons, List.flatten_cons, Nat.zero_mul, Nat.zero_add]
    rw [List.getElem?_append_left this]
    exact hi
  | y :: xs, j + 1, i, x, c, h, hi => by
    have ih := fdsL_at xs j i x c (by simpa using h) hi
    have hl : (fdL y).length = 2 := rfl
    simp only [fdsL, List.map_cons, List.flatten_cons]
    rw [List.getElem?_append_right (by rw [hl]; omega), hl, show (j + 1) * 2 + i - 2 = j * 2 + i by omega]
    exact ih
theorem owns_fds {w : World} {B : Nat} {v : Value} {xs : List Fd} (h : w.ownsRow B 26 2 v xs.length (fdsL xs)) : FdsAt w v xs := by
  rcases h.2 with ⟨rfl, h0⟩ | ⟨g, cap, cur, rfl, _, hg, hc, _⟩
  · have : xs = [] := List.eq_nil_of_length_eq_zero h0
    subst this
    exact none_fds w
  · refine ⟨some ⟨g, 0, none⟩, cap, rfl, hc, fun j x hj => ⟨_, rfl, (Array.getElem?_eq_some_iff.1 hg).1, fun i c hi => ?_⟩⟩
    have := h.cells (g := g) rfl (j * 2 + i) c (fdsL_at xs j i x c hj hi)
    rw [add_at] at this ⊢
    rw [add_at]
    simpa using this

/-! ### what a row of one new thing holds -/
theorem infoS : (Tryz.prog.info? 9).map (fun i => (i.zero, i.size, i.bytes)) = some (some (.string ⟨#[]⟩), 1, 16) := by kernel_rfl
theorem infoFd : (Tryz.prog.info? 26).map (fun i => (i.zero, i.size, i.bytes)) = some (some (.agg #[.string ⟨#[]⟩, .string ⟨#[]⟩]), 2, 32) := by kernel_rfl
theorem wpl_build {ops : Array Oper} {rest : List Oper} {o : Oper} {a : Act} {w : World} {Q : Exit → Act → World → Prop} {x : Operand} {cs : Array Value} (hs : cs.size = 2) (hg : o.guard = none) (ho : o.op = .buildSlice 23 1 #[(0, x)]) (hx : a.eval x = .agg cs)
    (h : wpList Tryz.prog ops Q rest (a.put o.dst (.slice (some ⟨w.heap.size, 0, none⟩) 1 1)) (w.alloc (.cells cs 26))) : wpList Tryz.prog ops Q (o :: rest) a w := by
  obtain ⟨i0, hi, hz0, hz1, hz2⟩ := info_parts infoFd
  refine wpList_buildSlice hg 23 26 1 #[(0, x)] ho cs i0 (.agg #[.string ⟨#[]⟩, .string ⟨#[]⟩]) Tryz.underlying23 hi hz0 (by rw [hz1]; decide) (by rw [hz1]; decide) ?_ h
  rw [hz1]
  have e : (#[(0, x)].map fun (i, x) => (i, a.eval x)).toList = (([Value.agg cs].zipIdx 0).map fun x => (x.2, x.1)) := by
    simp [hx]
  rw [e, Great.fill_whole (s := 2) (by decide) [.agg cs] _ (by intro v hv; simp at hv; subst hv; exact hs) (by simp)]
  simp [Value.cells]
theorem new_fd (w : World) (f : Fd) : ∀ j u, (fdL f)[j]? = some u → (w.alloc (.cells (fdV f) 26)).cell? ((⟨w.heap.size, 0, none⟩ : Addr).add j) = some u := by
  intro j u hj
  rw [add_at, Nat.zero_add, (At.new w _ _).cell]
  simpa [fdV, fdL] using hj
end Go.Proofs.YtdldoklkenhopaaGreatDoor.Fi
end

section
namespace Go.Proofs.YtdldoklkenhopaaGreatDoor.Fi
open Go.RowKit Go.PlainAid
open Hx
set_option linter.unusedVariables false
set_option maxRecDepth 20000
set_option linter.unusedSimpArgs false

theorem first_is (s : ByteArray) (j : Nat) (b : UInt8) (h : j < s.size) : (s[j]! == b) = decide ((ls s)[j]? = some b) := by
  rw [getElem!_pos s j h]
  have e : (ls s)[j]? = some s[j] := by
    have h2 : j < (ls s).length := by rw [ls_len]; exact h
    rw [List.getElem?_eq_getElem h2]; rfl
  rw [e]
  by_cases c : s[j] = b
  · rw [c]; simp
  · rw [beq_eq_false_iff_ne.2 c, decide_eq_false]; exact fun x => c (Option.some.inj x)
theorem cutB_at {b : UInt8} {l : List UInt8} {i : Nat} (hi : l[i]? = some b) (hn : ∀ j, j < i → l[j]? ≠ some b) : cutB b l = some (l.take i, l.drop (i + 1)) := by
  have hlt := (List.getElem?_eq_some_iff.1 hi).1
  have e : l = l.take i ++ b :: l.drop (i + 1) := by
    have : l.drop i = b :: l.drop (i + 1) := by
      rw [List.drop_eq_getElem_cons hlt]
      congr 1
      exact Option.some.inj ((List.getElem?_eq_getElem hlt).symm.trans hi)
    rw [← this, List.take_append_drop]
  have hm : b ∉ l.take i := by
    intro hmem
    obtain ⟨j, hj, e2⟩ := List.getElem_of_mem hmem
    rw [List.length_take] at hj
    refine hn j (by omega) ?_
    rw [List.getElem_take] at e2
    rw [← e2]
    exact List.getElem?_eq_getElem (by omega)
  have := cutB_of (y := l.drop (i + 1)) hm
  rwa [← e] at this
/-- where the first byte b stands -/
theorem idx_cases (s : ByteArray) (b : UInt8) : (firstIdx s b = -1 ∧ cutB b (ls s) = none) ∨ ∃ i : Nat, firstIdx s b = i ∧ i < s.size ∧ cutB b (ls s) = some ((ls s).take i, (ls s).drop (i + 1)) := by
  unfold firstIdx
  cases h : (List.range s.size).find? (fun i => s[i]! == b) with
  | none =>
    left
    refine ⟨rfl, cutB_none.2 fun hm => ?_⟩
    obtain ⟨j, hj, e⟩ := List.getElem_of_mem hm
    rw [ls_len] at hj
    have := List.find?_range_eq_none.1 h j hj
    rw [first_is s j b hj] at this
    have e2 : (ls s)[j]? = some b := by rw [← e]; exact List.getElem?_eq_getElem _
    simp [e2] at this
  | some i =>
    right
    obtain ⟨h1, h2, h3⟩ := List.find?_range_eq_some.1 h
    have hi : i < s.size := by simpa using h2
    rw [first_is s i b hi] at h1
    refine ⟨i, rfl, hi, cutB_at (by simpa using h1) fun j hj e => ?_⟩
    have := h3 j hj
    rw [first_is s j b (by omega)] at this
    simp [e] at this
set_option maxRecDepth 100000 in
theorem index_any (s : ByteArray) (b : UInt8) (w : World) (h : s.size ≤ 1099511627776) :
    Calls Tryz.prog 66 #[.string s, .string ⟨#[b]⟩] w fun e w' => e = .returned (.int .i64 (firstIdx s b)) ∧ w = w' := by
  have r := lowIndex_any s (b.toNat : Int) w
  have eb : ((b.toNat : Int)).toNat.toUInt8 = b := by simp
  rw [eb] at r
  clear eb
  cases c : ([b] == s.toList) with
  | true =>
    have e : s = ⟨#[b]⟩ := by
      rw [ByteArray.toList_eq, beq_iff_eq] at c
      cases s with | mk d => congr 1; apply Array.toList_inj.1; rw [← c]
    rw [e]
    rw [show firstIdx ⟨#[b]⟩ b = 0 by
      rcases idx_cases ⟨#[b]⟩ b with ⟨_, h2⟩ | ⟨i, h1, h2, _⟩
      · exact absurd (cutB_none.1 h2) (by simp [ls])
      · have : i = 0 := by have : (⟨#[b]⟩ : ByteArray).size = 1 := rfl
                           omega
        rw [h1, this]; rfl]
    clear r c e
    go_enter Tryz.func66, Tryz.ntmps66
    go_wp2
    all_goals go_ret
    all_goals exact ⟨rfl, rfl⟩
  | false =>
  generalize firstIdx s b = z at *
  go_enter Tryz.func66, Tryz.ntmps66
  go_wp2_with fail
  refine r.mono ?_
  rintro e w' ⟨rfl, rfl⟩
  clear r
  go_wp2
  all_goals go_ret
  all_goals exact ⟨rfl, rfl⟩
theorem lite_no (s : ByteArray) (b : UInt8) (w : World) (h : s.size ≤ 1099511627776) (hi : firstIdx s b = -1) :
    Calls Tryz.prog 46 #[.string s, .string ⟨#[b]⟩] w fun e w' => e = .returned (.tuple #[.string s, .string ⟨#[]⟩, .bool false]) ∧ Below w.heap.size w w' := by
  have r := index_any s b w h
  rw [hi] at r
  go_enter Tryz.func46, Tryz.ntmps46
  go_wp2_with fail
  refine r.mono ?_
  rintro e w' ⟨rfl, rfl⟩
  clear r
  go_wp2
  all_goals go_ret3
  all_goals exact ⟨rfl, Below.refl _ _⟩
theorem lite_yes (s : ByteArray) (b : UInt8) (w : World) (h : s.size ≤ 1099511627776) (i : Nat) (hi : firstIdx s b = i) (hs : i < s.size) :
    Calls Tryz.prog 46 #[.string s, .string ⟨#[b]⟩] w fun e w' => e = .returned (.tuple #[.string (s.extract 0 i), .string (s.extract (i + 1) s.size), .bool true]) ∧ Below w.heap.size w w' := by
  have r := index_any s b w h
  rw [hi] at r
  have i1 : (i : Int) ≤ (s.size : Int) := by omega
  have i2 : (i : Int) + 1 ≤ (s.size : Int) := by omega
  go_enter Tryz.func46, Tryz.ntmps46
  go_wp2_with fail
  refine r.mono ?_
  rintro e w' ⟨rfl, rfl⟩
  clear r
  go_wp2
  go_region
  all_goals go_wp2
  all_goals go_ret3
  all_goals exact ⟨rfl, (Below.refl _ _).drew⟩
theorem cut_no (s : ByteArray) (b : UInt8) (w : World) (h : s.size ≤ 1099511627776) (hc : cutB b (ls s) = none) :
    Calls Tryz.prog 25 #[.string s, .string ⟨#[b]⟩] w fun e w' => e = .returned (.tuple #[.string s, .string ⟨#[]⟩, .bool false]) ∧ Below w.heap.size w w' := by
  have hi : firstIdx s b = -1 := by
    rcases idx_cases s b with ⟨h1, _⟩ | ⟨i, _, _, h3⟩
    · exact h1
    · rw [hc] at h3; cases h3
  clear hc
  go_enter Tryz.func25, Tryz.ntmps25
  go_wp2_with fail
  refine (lite_no s b w h hi).mono ?_
  rintro e w' ⟨rfl, hb⟩
  clear hi
  go_wp2
  all_goals go_ret3
  all_goals exact ⟨rfl, hb⟩
theorem cut_yes (s : ByteArray) (b : UInt8) (w : World) (h : s.size ≤ 1099511627776) {x y : List UInt8} (hc : cutB b (ls s) = some (x, y)) :
    Calls Tryz.prog 25 #[.string s, .string ⟨#[b]⟩] w fun e w' => e = .returned (.tuple #[.string (tx x), .string (tx y), .bool true]) ∧ Below w.heap.size w w' := by
  obtain ⟨i, hi, hs, h3⟩ : ∃ i : Nat, firstIdx s b = i ∧ i < s.size ∧ cutB b (ls s) = some ((ls s).take i, (ls s).drop (i + 1)) := by
    rcases idx_cases s b with ⟨_, h1⟩ | h1
    · rw [hc] at h1; cases h1
    · exact h1
  rw [hc] at h3
  simp only [Option.some.injEq, Prod.mk.injEq] at h3
  have e1 : s.extract 0 i = tx x := ls_inj (by rw [ls_extract, ls_tx, h3.1]; simp)
  have e2 : s.extract (i + 1) s.size = tx y := ls_inj (by rw [ls_extract, ls_tx, h3.2]; exact List.take_of_length_le (by rw [List.length_drop, ls_len]; exact Nat.le_refl _))
  have r := lite_yes s b w h i hi hs
  rw [e1, e2] at r
  clear e1 e2 h3 hc hi hs
  generalize tx x = x1 at *
  generalize tx y = y1 at *
  go_enter Tryz.func25, Tryz.ntmps25
  go_wp2_with fail
  refine r.mono ?_
  rintro e w' ⟨rfl, hb⟩
  clear r
  go_wp2
  all_goals go_ret3
  all_goals exact ⟨rfl, hb⟩
end Go.Proofs.YtdldoklkenhopaaGreatDoor.Fi
end

section
namespace Go.Proofs.YtdldoklkenhopaaGreatDoor.Fi
open Go.RowKit Go.PlainAid
open Hx
set_option linter.unusedVariables false
set_option maxRecDepth 20000
set_option linter.unusedSimpArgs false

theorem hasSuf_none (s : ByteArray) (w : World) (h : s.size = 0) :
    Calls Tryz.prog 107 #[.string s, .string ⟨#[13]⟩] w fun e w' => e = .returned (.bool false) ∧ w = w' := by
  go_enter Tryz.func107, Tryz.ntmps107
  go_wp2
  all_goals go_ret
  all_goals exact ⟨rfl, rfl⟩
theorem hasSuf_some (s : ByteArray) (n : Nat) (v : Bool) (w : World) (h : s.size = n + 1) (hs : s.size ≤ 1099511627776) (hv : ((s.extract n s.size).toList == [13]) = v) :
    Calls Tryz.prog 107 #[.string s, .string ⟨#[13]⟩] w fun e w' => e = .returned (.bool v) ∧ w = w' := by
  have i1 : (s.size : Int) - 1 = (n : Int) := by omega
  have i2 : (n : Int) ≤ (s.size : Int) := by omega
  have i3 : (1 : Int) ≤ (s.size : Int) := by omega
  clear h
  go_enter Tryz.func107, Tryz.ntmps107
  go_wp2
  all_goals go_ret
  all_goals exact ⟨rfl, rfl⟩
theorem last_one {s : ByteArray} {n : Nat} (h : s.size = n + 1) : ls (s.extract n s.size) = (ls s).drop n := by
  rw [ls_extract]
  exact List.take_of_length_le (by rw [List.length_drop, ls_len]; omega)
theorem suf_yes (s : ByteArray) (x : List UInt8) (w : World) (hs : s.size ≤ 1099511627776) (h : ls s = x ++ [13]) :
    Calls Tryz.prog 79 #[.string s, .string ⟨#[13]⟩] w fun e w' => e = .returned (.tuple #[.string (tx x), .bool true]) ∧ w = w' := by
  have hz : s.size = x.length + 1 := by rw [← ls_len, h]; simp
  have e1 : s.extract 0 x.length = tx x := ls_inj (by rw [ls_extract, ls_tx, h]; simp)
  have r := hasSuf_some s x.length true w hz hs (by rw [ls_toList, last_one hz, h]; simp)
  have i1 : (s.size : Int) - 1 = (x.length : Int) := by omega
  have i2 : (x.length : Int) ≤ (s.size : Int) := by omega
  have E1 := Lib.hid e1
  clear h hz e1
  have low : Calls Tryz.prog 91 #[.string s, .string ⟨#[13]⟩] w fun e w' => e = .returned (.tuple #[.string (tx x), .bool true]) ∧ w = w' := by
    go_enter Tryz.func91, Tryz.ntmps91
    go_wp2_with fail
    refine r.mono ?_
    rintro e w' ⟨rfl, rfl⟩
    clear r
    go_wp2
    go_ret2
    exact ⟨by rw [← E1.out]; rfl, rfl⟩
  clear r i1 i2
  generalize tx x = x1 at *
  go_enter Tryz.func79, Tryz.ntmps79
  go_wp2_with fail
  refine low.mono ?_
  rintro e w' ⟨rfl, rfl⟩
  clear low
  go_wp2
  go_ret2
  exact ⟨rfl, rfl⟩
theorem suf_no (s : ByteArray) (w : World) (hs : s.size ≤ 1099511627776) (h : (ls s).getLast? ≠ some 13) :
    Calls Tryz.prog 79 #[.string s, .string ⟨#[13]⟩] w fun e w' => e = .returned (.tuple #[.string s, .bool false]) ∧ w = w' := by
  have r : Calls Tryz.prog 107 #[.string s, .string ⟨#[13]⟩] w fun e w' => e = .returned (.bool false) ∧ w = w' := by
    by_cases h0 : s.size = 0
    · exact hasSuf_none s w h0
    · obtain ⟨n, hn⟩ : ∃ n, s.size = n + 1 := ⟨s.size - 1, by omega⟩
      refine hasSuf_some s n false w hn hs ?_
      rw [ls_toList, last_one hn, beq_eq_false_iff_ne]
      intro e
      apply h
      have : ls s = (ls s).take n ++ [13] := by rw [← e, List.take_append_drop]
      rw [this]; simp
  clear h
  have low : Calls Tryz.prog 91 #[.string s, .string ⟨#[13]⟩] w fun e w' => e = .returned (.tuple #[.string s, .bool false]) ∧ w = w' := by
    go_enter Tryz.func91, Tryz.ntmps91
    go_wp2_with fail
    refine r.mono ?_
    rintro e w' ⟨rfl, rfl⟩
    clear r
    go_wp2
    go_ret2
    exact ⟨rfl, rfl⟩
  clear r
  go_enter Tryz.func79, Tryz.ntmps79
  go_wp2_with fail
  refine low.mono ?_
  rintro e w' ⟨rfl, rfl⟩
  clear low
  go_wp2
  go_ret2
  exact ⟨rfl, rfl⟩
theorem has13_any (s : ByteArray) (w : World) (hs : s.size ≤ 1099511627776) :
    Calls Tryz.prog 87 #[.string s, .string ⟨#[13]⟩] w fun e w' => e = .returned (.bool (decide ((13 : UInt8) ∈ ls s))) ∧ w = w' := by
  have r := index_any s 13 w hs
  have hv : decide (0 ≤ firstIdx s 13) = decide ((13 : UInt8) ∈ ls s) := by
    rcases idx_cases s 13 with ⟨h1, h2⟩ | ⟨i, h1, _, h3⟩
    · rw [h1, decide_eq_false (cutB_none.1 h2)]; rfl
    · rw [h1, decide_eq_true (show (0 : Int) ≤ (i : Int) by omega)]
      have := (cutB_some h3).1
      rw [decide_eq_true (by rw [this]; simp)]
  generalize decide ((13 : UInt8) ∈ ls s) = v at *
  generalize firstIdx s 13 = z at *
  subst hv
  have r2 : Calls Tryz.prog 104 #[.string s, .string ⟨#[13]⟩] w fun e w' => e = .returned (.int .i64 z) ∧ w = w' := by
    go_enter Tryz.func104, Tryz.ntmps104
    go_wp2_with fail
    refine r.mono ?_
    rintro e w' ⟨rfl, rfl⟩
    clear r
    go_wp2
    go_ret
    exact ⟨rfl, rfl⟩
  clear r
  go_enter Tryz.func87, Tryz.ntmps87
  go_wp2_with fail
  refine r2.mono ?_
  rintro e w' ⟨rfl, rfl⟩
  clear r2
  go_wp2
  go_ret
  exact ⟨rfl, rfl⟩

/-! ### Clone -/
section
variable {P : Program} {ops : Array Oper} {rest : List Oper} {o : Oper} {a : Act} {w w' : World} {Q : Exit → Act → World → Prop} {t u : TypeId} {x y : Operand} {v vy r : Value}
theorem wpl_copy (hr : ∀ ty, (Builtin.copy_ #[t, u] ty #[v, vy]).run P w = .ok r w') (hgd : o.guard = none) (hop : o.op = .call { callee := .builtin .copy, args := #[x, y], argTypes := #[t, u] }) (hx : a.eval x = v) (hy : a.eval y = vy) (h : wpList P ops Q rest (a.put o.dst r) w') : wpList P ops Q (o :: rest) a w :=
  wpList_plain hgd fun _ hK => by
    unfold Oper.wp execOp
    simp only [hop, resolve, invoke, builtin, Sem.run_bind, Sem.run_pure, Result.andThen_ok, List.map_toArray, List.map_cons, List.map_nil, hx, hy, hr]
    exact hK _ _ h
end
theorem empty_of {s : ByteArray} (h : s.size = 0) : s = ⟨#[]⟩ := by
  apply ByteArray.ext
  exact Array.eq_empty_of_size_eq_zero h
set_option maxHeartbeats 2000000 in
theorem clone_low (s : ByteArray) (w : World) (hs : s.size ≤ 140737488355328) :
    Calls Tryz.prog 24 #[.string s] w fun e w' => e = .returned (.string s) ∧ Below w.heap.size w w' := by
  by_cases h0 : s.size = 0
  · have e := empty_of h0
    subst e
    clear h0
    go_enter Tryz.func24, Tryz.ntmps24
    go_wp2
    go_ret
    exact ⟨rfl, Below.refl _ _⟩
  · obtain ⟨i0, hi, hz0, hz1, hz2⟩ := info_parts info5
    have l1 : ((s.size : Int) == 0) = false := by rw [beq_eq_false_iff_ne]; omega
    have l2 : ¬ (s.size : Int) = 0 := by omega
    go_enter Tryz.func24, Tryz.ntmps24
    go_upto_region 4 with (at_make; refine wpList_make_full _ rfl _ _ 49 rfl w.heap.size 5 i0 (.int .u8 0) 1 Tryz.underlying49 hi hz0 hz1 .i64 .i64 _ _ s.size rfl rfl (by omega) (by omega) (by rw [hz2]; omega) (by unfold maxLen; omega) (Nat.le_refl _) ?_; intro w1 hown hgrow)
    obtain ⟨cur, hg, hcs⟩ : ∃ cur, w1.heap[w.heap.size]? = some (.cells cur 5 (0, 0)) ∧ cur.size = s.size := by
      rcases hown.2 with ⟨e, _⟩ | ⟨g, cap, cur, e, _, hg, _, _, hc, _⟩
      · cases e
      · injection e with e1 _ e3
        injection e1 with e1
        injection e1 with e1
        subst e1 e3
        exact ⟨cur, hg, by simpa using hc⟩
    have F : Below w.heap.size w w1 := (Below.refl _ _).grown hgrow (Nat.le_refl _) (fun k h => by cases h)
    have hcp := fun ty => Lib.run_copy_row_string (P := Tryz.prog) w1 49 9 ty 5 w.heap.size 0 s.size s.size s cur 5 Tryz.underlying49 (by kernel_rfl) hg (Nat.le_refl _) (by omega)
    have e2 : (cur.toList.take 0 ++ Lib.byteCells s.data.toList ++ cur.toList.drop (0 + s.size)).toArray = (Lib.byteCells s.data.toList).toArray := by
      rw [Nat.zero_add, List.drop_of_length_le (by simp; omega)]
      simp
    rw [e2] at hcp
    have H2 := setRow_heap w1 w.heap.size cur (Lib.byteCells s.data.toList).toArray 5 (0, 0) hg
    have F2 : Below w.heap.size w (w1.setRow w.heap.size (Lib.byteCells s.data.toList).toArray) := below_row F (Nat.le_refl _)
    clear e2 hg hown hgrow F hcs
    generalize w1.setRow w.heap.size (Lib.byteCells s.data.toList).toArray = w2 at hcp H2 F2
    have hlen : s.data.toList.length = s.size := by simp
    have hUS := Lib.run_unsafeString_row (P := Tryz.prog) w2 81 3 9 5 Tryz.underlying81 (by kernel_rfl) w.heap.size s.size (by simp [World.shape?, H2, Lib.byteCells]) s.data.toList (by intro c; rw [c] at hlen; simp at hlen; omega) (by omega) (by omega) (by
      intro j x hx
      rw [add_at, Nat.zero_add, cell_of_row _ _ _ _ _ _ H2]
      simp [Lib.byteCells, hx])
    rw [hlen] at hUS
    have e3 : (⟨s.data.toList.toArray⟩ : ByteArray) = s := by simp
    rw [e3] at hUS
    have F3 := Lib.below_freeze F2 (p := ⟨w.heap.size, 0, none⟩) (Nat.le_refl _) s.size
    clear e3 hlen F2 H2
    have l3 : (0 : Int) < (s.size : Int) := by omega
    go_wp2_with (refine wpl_copy hcp rfl rfl rfl rfl ?_)
    go_ret
    exact ⟨rfl, F3⟩
theorem clone_any (s : ByteArray) (w : World) (hs : s.size ≤ 140737488355328) :
    Calls Tryz.prog 14 #[.string s] w fun e w' => e = .returned (.string s) ∧ Below w.heap.size w w' := by
  go_enter Tryz.func14, Tryz.ntmps14
  go_wp2_with fail
  refine (clone_low s _ hs).mono ?_
  rintro e w1 ⟨rfl, G⟩
  go_wp2
  go_ret
  exact ⟨rfl, G⟩
end Go.Proofs.YtdldoklkenhopaaGreatDoor.Fi
end

section
namespace Go.Proofs.YtdldoklkenhopaaGreatDoor.Fi
open Go.RowKit Go.PlainAid
open Hx
set_option linter.unusedVariables false
set_option maxRecDepth 20000
set_option linter.unusedSimpArgs false

def wsN (c : Int) : Bool := c == 32 || c == 9
theorem ws_is (c : UInt8) : ([32, 9] : List UInt8).contains c = wsN (c.toNat : Int) := by
  have : ∀ m : Fin 256, ([32, 9] : List UInt8).contains (UInt8.ofNat m.val) = wsN (m.val : Int) := by decide +kernel
  have h := this ⟨c.toNat, c.toNat_lt⟩
  simp only at h
  rwa [UInt8.ofNat_toNat] at h
theorem results_cell_tmp {P : Program} {fn : Func} {p q : Tmp} {ty : TypeId} (h : fn.results = #[.cell p ty, .tmp q]) (tmps : Array Value) {w : World} {g : Nat} {cs : Array Value} {v : Value}
    (hp : tmps.getD p undef = .pointer (some ⟨g, 0, none⟩)) (hq : tmps.getD q undef = v) (hl : Loads P w ty ⟨g, 0, none⟩ cs) :
    (results fn tmps).run P w = .ok (.tuple #[.agg cs, v]) w := by
  have hp' : tmps[p]?.getD undef = .pointer (some ⟨g, 0, none⟩) := by simpa using hp
  have hq' : tmps[q]?.getD undef = v := by simpa using hq
  have hl' : (loadVar ty ⟨g, 0, none⟩).run P w = .ok (.agg cs) w := hl
  simp [results, h, hp', hq', asAddr, hl']
def setW : Array Value := Lib.setCells [32, 9]
theorem setW_size : setW.size = 256 := Lib.setCells_size _
theorem setW_one : ∀ v ∈ setW.toList, v.oneCell' = true := by
  have := Lib.setCells_one [32, 9]
  rw [Array.all_eq_true_iff_forall_mem] at this
  intro v hv
  exact this v (Array.mem_toList_iff.1 hv)
theorem set_cell {w : World} {B : Nat} (h : At w B 124 setW) (n : Nat) (hn : n < 256) : w.cell? ⟨B, n, none⟩ = some (.bool (wsN (n : Int))) := by
  rw [h.cell]
  have := Lib.setCells_at [32, 9] (UInt8.ofNat n)
  have e : (UInt8.ofNat n).toNat = n := by rw [UInt8.toNat_ofNat']; omega
  rw [ws_is, e] at this
  exact this
theorem contains_any {w : World} {B : Nat} (h : At w B 124 setW) (c : Int) (h0 : 0 ≤ c) (h1 : c ≤ 255) :
    Calls Tryz.prog 110 #[.pointer (some ⟨B, 0, none⟩), .int .u8 c] w fun e w' => e = .returned (.bool (wsN c)) ∧ w = w' := by
  obtain ⟨n, rfl⟩ := Int.eq_ofNat_of_zero_le h0
  have hc := set_cell h n (by omega)
  have hn : n < 256 := by omega
  have hn2 : (n : Int) < 256 := by omega
  generalize wsN (n : Int) = b at *
  clear h h1 h0
  go_enter Tryz.func110, Tryz.ntmps110
  go_wp2
  go_ret
  exact ⟨rfl, rfl⟩
set_option maxRecDepth 100000 in
theorem zero_set : Tryz.zeroCells124 = Lib.setCells [] := by kernel_rfl
theorem set_loads {w : World} {B : Nat} {l : List UInt8} (h : At w B 124 (Lib.setCells l)) : Loads Tryz.prog w 124 ⟨B, 0, none⟩ (Lib.setCells l) :=
  h.loads (by kernel_rfl) (by rw [Lib.setCells_size]; kernel_rfl)
theorem set_stores {w : World} {B : Nat} {l m : List UInt8} (h : At w B 124 (Lib.setCells m)) : Stores Tryz.prog w 124 B 0 (Lib.setCells l) (w.setRow B (Lib.setCells l)) :=
  h.stores (by rw [Lib.setCells_size]; kernel_rfl) (by rw [Lib.setCells_size, Lib.setCells_size]) (by
    have := Lib.setCells_one l
    rw [Array.all_eq_true_iff_forall_mem] at this
    intro v hv
    exact this v (Array.mem_toList_iff.1 hv))
set_option maxRecDepth 100000 in
set_option maxHeartbeats 2000000 in
theorem makeSet_any (w : World) :
    Calls Tryz.prog 99 #[.string ⟨#[32, 9]⟩] w fun e w' => e = .returned (.tuple #[.agg setW, .bool true]) ∧ Below w.heap.size w w' := by
  have A0 := At.new w 124 Tryz.zeroCells124
  have F0 : Below w.heap.size w (w.alloc (.cells Tryz.zeroCells124 124)) := (Below.refl _ _).alloc (Nat.le_refl _) _
  go_enter Tryz.func99, Tryz.ntmps99
  go_wp2
  generalize w.alloc (.cells Tryz.zeroCells124 124) = w0 at A0 F0 ⊢
  rw [zero_set] at A0
  go_loopw [4] (fun i wr => ∃ k : Nat, k ≤ 2 ∧ i = .int .i64 k ∧ At wr w.heap.size 124 (Lib.setCells ([32, 9].take k)) ∧ Below w.heap.size w wr) (fun i _ => 2 - (intOf i).toNat)
  case atStart => exact ⟨0, Nat.zero_le _, rfl, A0, F0⟩
  case round =>
    clear A0 F0
    obtain ⟨k, hk, rfl, A1, F1⟩ := hrel
    have g0 : ∀ h, ((⟨#[32, 9]⟩ : ByteArray)[0]'h).toNat = 32 := fun _ => rfl
    have g1 : ∀ h, ((⟨#[32, 9]⟩ : ByteArray)[1]'h).toNat = 9 := fun _ => rfl
    have hk3 : k = 0 ∨ k = 1 ∨ k = 2 := by omega
    rcases hk3 with rfl | rfl | rfl
    · have c1 : wr.cell? ⟨w.heap.size, 32, none⟩ = some (.bool false) := by
        rw [A1.cell]; have := Lib.setCells_at [] 32; exact this
      have f1 := A1.frozen 32
      have A2 := A1.set 32 (.bool true)
      rw [show (Lib.setCells ([32, 9].take 0)).setIfInBounds 32 (.bool true) = Lib.setCells ([32, 9].take 1) from (Lib.setCells_snoc [] 32).symm] at A2
      have F2 := below_set F1 32 (.bool true)
      go_wp2
      go_roundw
      case rel => exact ⟨1, by omega, rfl, A2, F2⟩
      case measure => decide
    · have c1 : wr.cell? ⟨w.heap.size, 9, none⟩ = some (.bool false) := by
        rw [A1.cell]; have := Lib.setCells_at [32] 9; exact this
      have f1 := A1.frozen 9
      have A2 := A1.set 9 (.bool true)
      rw [show (Lib.setCells ([32, 9].take 1)).setIfInBounds 9 (.bool true) = Lib.setCells ([32, 9].take 2) from (Lib.setCells_snoc [32] 9).symm] at A2
      have F2 := below_set F1 9 (.bool true)
      go_wp2
      go_roundw
      case rel => exact ⟨2, by omega, rfl, A2, F2⟩
      case measure => decide
    · have L1 := set_loads A1
      have S1 := set_stores (l := [32, 9].take 2) A1
      have A2 := A1.row (Lib.setCells ([32, 9].take 2))
      have F2 : Below w.heap.size w (wr.setRow w.heap.size (Lib.setCells ([32, 9].take 2))) := below_row F1 (Nat.le_refl _)
      generalize wr.setRow w.heap.size (Lib.setCells ([32, 9].take 2)) = w2 at S1 A2 F2
      go_wp2_with (first | refine wpl_load L1 rfl rfl rfl ?_ | refine wpl_store S1 rfl rfl rfl rfl rfl ?_)
      exact bodyPost_ret (results_cell_tmp Tryz.results99 _ rfl rfl (set_loads A2)) rfl ⟨rfl, F2⟩

/-! ### from the left, from the right -/
theorem trimLeft_any {w : World} {B : Nat} (h : At w B 124 setW) (s : ByteArray) (hs : s.size ≤ 4611686018427387904) :
    Calls Tryz.prog 100 #[.string s, .pointer (some ⟨B, 0, none⟩)] w fun e w' => e = .returned (.string (tx (Lib.trimLeftS (ls s) [32, 9]))) ∧ w = w' := by
  have H := Lib.hid h
  clear h
  go_enter Tryz.func100, Tryz.ntmps100
  go_wp2
  go_loop [0] (fun v => ∃ (k : Nat) (t : ByteArray), k ≤ s.size ∧ v = .string t ∧ ls t = (ls s).drop k ∧ ∀ (j : Nat) b, j < k → (ls s)[j]? = some b → ([32, 9] : List UInt8).contains b = true) (fun v => Lib.strSize v)
  case atStart => exact ⟨0, s, Nat.zero_le _, rfl, rfl, fun j b hj => absurd hj (Nat.not_lt_zero _)⟩
  case round =>
    obtain ⟨k, t, hk, rfl, ht, hc⟩ := hrel
    have hz : t.size + k = s.size := by
      have := congrArg List.length ht
      rw [ls_len, List.length_drop, ls_len] at this
      omega
    have HT := Lib.hid ht
    have HC := Lib.hid hc
    clear ht hc
    have HZ := Lib.hid hz
    clear hz
    have hg := get_bt t
    have hts : t.size ≤ 4611686018427387904 := by have := HZ.out; omega
    by_cases h0 : 0 < t.size
    · obtain ⟨c, gc, ec, _, _, dc⟩ := get_ls h0
      have gs : (ls s)[k]? = some c := by
        have := HT.out
        rw [this, List.getElem?_drop] at gc
        simpa using gc
      have b0 := bt_nonneg t 0
      have b1 := bt_le t 0
      cases hw : wsN (bt t 0) with
      | true =>
        have HW := Lib.hid hw
        have e1 : ls (t.extract 1 t.size) = (ls s).drop (k + 1) := by
          rw [ls_extract, HT.out, List.drop_drop, List.take_of_length_le (by rw [List.length_drop, ls_len]; have := HZ.out; omega)]
        have HE := Lib.hid e1
        have GS := Lib.hid gs
        have EC := Lib.hid ec
        clear e1 hw gs ec gc dc
        have l0 : (0 : Int) < (t.size : Int) := by omega
        have l1 : (1 : Int) ≤ (t.size : Int) := by omega
        go_wp2_with fail
        refine (contains_any H.out _ b0 b1).mono ?_
        rintro e w' ⟨rfl, rfl⟩
        rw [HW.out]
        go_wp2
        go_round
        case rel =>
          refine ⟨k + 1, _, by have := HZ.out; omega, rfl, HE.out, fun j b hj hb => ?_⟩
          by_cases e : j = k
          · subst e
            rw [GS.out] at hb
            rw [← Option.some.inj hb, ws_is, ← EC.out]
            exact HW.out
          · exact HC.out j b (by omega) hb
        case measure => simp [Lib.strSize, ByteArray.size_extract]; omega
      | false =>
        have HW := Lib.hid hw
        have GS := Lib.hid gs
        have EC := Lib.hid ec
        clear hw gs ec gc dc
        have l0 : (0 : Int) < (t.size : Int) := by omega
        go_wp2_with fail
        refine (contains_any H.out _ b0 b1).mono ?_
        rintro e w' ⟨rfl, rfl⟩
        rw [HW.out]
        go_wp2
        go_ret
        refine ⟨?_, rfl⟩
        rw [Lib.trimLeftS_drop (ls s) [32, 9] k (by rw [ls_len]; exact hk) HC.out (fun b hb => by
          rw [GS.out] at hb
          rw [← Option.some.inj hb, ws_is, ← EC.out]
          exact HW.out), ← HT.out, tx_ls]
        rfl
    · have l0 : ¬ (0 : Int) < (t.size : Int) := by omega
      go_wp2
      go_ret
      refine ⟨?_, rfl⟩
      have hk2 : s.size ≤ k := by have := HZ.out; omega
      rw [Lib.trimLeftS_drop (ls s) [32, 9] k (by rw [ls_len]; exact hk) HC.out (fun b hb => by
          rw [List.getElem?_eq_none (by rw [ls_len]; exact hk2)] at hb; cases hb), ← HT.out, tx_ls]
      rfl
end Go.Proofs.YtdldoklkenhopaaGreatDoor.Fi
end

section
namespace Go.Proofs.YtdldoklkenhopaaGreatDoor.Fi
open Go.RowKit Go.PlainAid
open Hx
set_option linter.unusedVariables false
set_option maxRecDepth 20000
set_option linter.unusedSimpArgs false

theorem trimRight_any {w : World} {B : Nat} (h : At w B 124 setW) (s : ByteArray) (hs : s.size ≤ 4611686018427387904) :
    Calls Tryz.prog 101 #[.string s, .pointer (some ⟨B, 0, none⟩)] w fun e w' => e = .returned (.string (tx (Lib.trimRightS (ls s) [32, 9]))) ∧ w = w' := by
  have H := Lib.hid h
  clear h
  go_enter Tryz.func101, Tryz.ntmps101
  go_wp2
  go_loop [0] (fun v => ∃ (k : Nat) (t : ByteArray), k ≤ s.size ∧ v = .string t ∧ ls t = (ls s).take k ∧ ∀ (j : Nat) b, k ≤ j → (ls s)[j]? = some b → ([32, 9] : List UInt8).contains b = true) (fun v => Lib.strSize v)
  case atStart => exact ⟨s.size, s, Nat.le_refl _, rfl, by rw [List.take_of_length_le (by rw [ls_len]; exact Nat.le_refl _)], fun j b hj hb => by
    rw [List.getElem?_eq_none (by rw [ls_len]; exact hj)] at hb; cases hb⟩
  case round =>
    obtain ⟨k, t, hk, rfl, ht, hc⟩ := hrel
    have hz : t.size = k := by
      have := congrArg List.length ht
      rw [ls_len, List.length_take, ls_len] at this
      omega
    have HT := Lib.hid ht
    have HC := Lib.hid hc
    clear ht hc
    have HZ := Lib.hid hz
    clear hz
    have hg := get_bt t
    have hts : t.size ≤ 4611686018427387904 := by have := HZ.out; omega
    by_cases h0 : 0 < t.size
    · obtain ⟨n, hn⟩ : ∃ n, t.size = n + 1 := ⟨t.size - 1, by omega⟩
      obtain ⟨c, gc, ec, _, tc, _⟩ := get_ls (s := t) (k := n) (by omega)
      have gs : (ls s)[n]? = some c := by
        have := HT.out
        rw [this, List.getElem?_take] at gc
        rw [if_pos (by have := HZ.out; omega)] at gc
        exact gc
      have b0 := bt_nonneg t n
      have b1 := bt_le t n
      have i1 : (t.size : Int) - 1 = (n : Int) := by omega
      have i2 : (n : Int) < (t.size : Int) := by omega
      have i3 : (n : Int) ≤ (t.size : Int) := by omega
      have i4 : (0 : Int) ≤ (n : Int) := Int.natCast_nonneg _
      have hn1 : n < t.size := by omega
      have HN := Lib.hid hn
      clear hn
      have l0 : (0 : Int) < (t.size : Int) := by omega
      cases hw : wsN (bt t n) with
      | true =>
        have HW := Lib.hid hw
        have e1 : ls (t.extract 0 n) = (ls s).take n := by
          rw [ls_extract, HT.out, List.drop_zero, List.take_take, Nat.sub_zero, Nat.min_eq_left (by have := HZ.out; have := HN.out; omega)]
        have HE := Lib.hid e1
        have GS := Lib.hid gs
        have EC := Lib.hid ec
        clear e1 hw gs ec gc tc
        go_wp2_with fail
        refine (contains_any H.out _ b0 b1).mono ?_
        rintro e w' ⟨rfl, rfl⟩
        rw [HW.out]
        go_wp2
        go_round
        case rel =>
          refine ⟨n, _, by have := HZ.out; omega, rfl, HE.out, fun j b hj hb => ?_⟩
          by_cases e : j = n
          · subst e
            rw [GS.out] at hb
            rw [← Option.some.inj hb, ws_is, ← EC.out]
            exact HW.out
          · exact HC.out j b (by have := HZ.out; have := HN.out; omega) hb
        case measure => simp [Lib.strSize, ByteArray.size_extract]; omega
      | false =>
        have HW := Lib.hid hw
        have GS := Lib.hid gs
        have EC := Lib.hid ec
        clear hw gs ec gc tc
        go_wp2_with fail
        refine (contains_any H.out _ b0 b1).mono ?_
        rintro e w' ⟨rfl, rfl⟩
        rw [HW.out]
        go_wp2
        go_ret
        refine ⟨?_, rfl⟩
        rw [Lib.trimRightS_take (ls s) [32, 9] k (by rw [ls_len]; exact hk) HC.out (fun b _ hb => by
          rw [show k - 1 = n by have := HZ.out; have := HN.out; omega, GS.out] at hb
          rw [← Option.some.inj hb, ws_is, ← EC.out]
          exact HW.out), ← HT.out, tx_ls]
        rfl
    · have l0 : ¬ (0 : Int) < (t.size : Int) := by omega
      go_wp2
      go_ret
      refine ⟨?_, rfl⟩
      have hk2 : k = 0 := by have := HZ.out; omega
      rw [Lib.trimRightS_take (ls s) [32, 9] k (by rw [ls_len]; exact hk) HC.out (fun b h _ => by omega), ← HT.out, tx_ls]
      rfl
theorem lib_le (l : List UInt8) : (Lib.trimRightS l [32, 9]).length ≤ l.length := by
  unfold Lib.trimRightS
  rw [List.length_reverse]
  refine Nat.le_trans (List.dropWhile_sublist _).length_le ?_
  rw [List.length_reverse]; exact Nat.le_refl _
set_option maxRecDepth 100000 in
set_option maxHeartbeats 1000000 in
theorem libTrim_any (s : ByteArray) (w : World) (hs : s.size ≤ 4611686018427387904) :
    Calls Tryz.prog 86 #[.string s, .string ⟨#[32, 9]⟩] w fun e w' => e = .returned (.string (tx (trimT (ls s)))) ∧ Below w.heap.size w w' := by
  by_cases h0 : s.size = 0
  · have h1 := toList_nil s h0
    have e : s = tx (trimT (ls s)) := by
      rw [ls_empty h0]
      exact ls_inj (by rw [ls_empty h0, ls_tx]; rfl)
    have E := Lib.hid e
    clear h0 e
    go_enter Tryz.func86, Tryz.ntmps86
    go_wp2
    go_ret
    exact ⟨by rw [← E.out]; rfl, Below.refl _ _⟩
  · have h1 := toList_ne s (by omega)
    have h2 := toList_ne' s (by omega)
    clear h0
    go_enter Tryz.func86, Tryz.ntmps86
    go_wp2_with fail
    refine (makeSet_any _).mono ?_
    rintro e w1 ⟨rfl, F1⟩
    have A0 := At.new w1 124 Tryz.zeroCells124
    have F2 : Below w.heap.size w (w1.alloc (.cells Tryz.zeroCells124 124)) := F1.alloc F1.size _
    have hN := F1.size
    clear F1
    generalize hw2 : w1.alloc (.cells Tryz.zeroCells124 124) = w2 at A0 F2
    rw [zero_set] at A0
    have S1 := set_stores (l := [32, 9]) A0
    have A1 := A0.row (Lib.setCells [32, 9])
    have F3 : Below w.heap.size w (w2.setRow w1.heap.size (Lib.setCells [32, 9])) := below_row F2 hN
    clear A0 F2
    generalize w2.setRow w1.heap.size (Lib.setCells [32, 9]) = w3 at S1 A1 F3
    subst hw2
    have R1 := trimRight_any (w := w3) A1 s hs
    have R2 := trimLeft_any (w := w3) A1 (tx (Lib.trimRightS (ls s) [32, 9])) (by rw [tx_size]; have := lib_le (ls s); rw [ls_len] at this; omega)
    rw [ls_tx] at R2
    clear A1 hN
    have E : tx (Lib.trimLeftS (Lib.trimRightS (ls s) [32, 9]) [32, 9]) = tx (trimT (ls s)) := rfl
    rw [E] at R2
    clear E
    generalize tx (Lib.trimRightS (ls s) [32, 9]) = m at R1 R2
    generalize hr : tx (trimT (ls s)) = r at R2
    have HR := Lib.hid hr
    clear hr
    unfold setW
    go_wp2_with (refine wpl_store S1 rfl rfl rfl rfl rfl ?_)
    refine R1.mono ?_
    rintro e w' ⟨rfl, rfl⟩
    clear R1 S1
    go_wp2_with fail
    refine R2.mono ?_
    rintro e w' ⟨rfl, rfl⟩
    clear R2
    go_wp2
    go_ret
    exact ⟨by rw [HR.out]; rfl, F3⟩
theorem trim_any (s : ByteArray) (w : World) (hs : s.size ≤ 4611686018427387904) :
    Calls Tryz.prog 70 #[.string s] w fun e w' => e = .returned (.string (tx (trimT (ls s)))) ∧ Below w.heap.size w w' := by
  have r := libTrim_any s w hs
  generalize tx (trimT (ls s)) = t at *
  go_enter Tryz.func70, Tryz.ntmps70
  go_wp2_with fail
  refine r.mono ?_
  rintro e w1 ⟨rfl, F⟩
  clear r
  go_wp2
  go_ret
  exact ⟨rfl, F⟩

/-! ### the document's Trim: from the left first -/
theorem right_cons (c : UInt8) (l : List UInt8) : Lib.trimRightS (c :: l) [32, 9] = if ([32, 9] : List UInt8).contains c = true ∧ Lib.trimRightS l [32, 9] = [] then [] else c :: Lib.trimRightS l [32, 9] := by
  unfold Lib.trimRightS
  rw [List.reverse_cons, List.dropWhile_append]
  by_cases h : (List.dropWhile (fun x => ([32, 9] : List UInt8).contains x) l.reverse).isEmpty = true
  · have e := List.isEmpty_iff.1 h
    rw [if_pos h, e]
    by_cases hc : ([32, 9] : List UInt8).contains c = true
    · rw [if_pos ⟨hc, rfl⟩, List.dropWhile_cons, if_pos hc]; rfl
    · rw [if_neg (fun x => hc x.1), List.dropWhile_cons, if_neg hc]; rfl
  · rw [if_neg h]
    have : ¬ (List.dropWhile (fun x => ([32, 9] : List UInt8).contains x) l.reverse).reverse = [] := fun e => h (by
      have := congrArg List.reverse e
      rw [List.reverse_reverse] at this
      rw [this]; rfl)
    rw [if_neg (fun x => this x.2), List.reverse_append]
    rfl
theorem left_right : ∀ l : List UInt8, Lib.trimRightS (Lib.trimLeftS l [32, 9]) [32, 9] = trimT l
  | [] => rfl
  | c :: l => by
    have ih := left_right l
    unfold trimT Lib.trimS at ih ⊢
    by_cases hc : ([32, 9] : List UInt8).contains c = true
    · have e : Lib.trimLeftS (c :: l) [32, 9] = Lib.trimLeftS l [32, 9] := by unfold Lib.trimLeftS; rw [List.dropWhile_cons, if_pos hc]
      rw [e, ih, right_cons]
      by_cases h : Lib.trimRightS l [32, 9] = []
      · rw [if_pos ⟨hc, h⟩, h]
      · rw [if_neg (fun x => h x.2)]
        unfold Lib.trimLeftS
        rw [List.dropWhile_cons, if_pos hc]
    · have e : Lib.trimLeftS (c :: l) [32, 9] = c :: l := by unfold Lib.trimLeftS; rw [List.dropWhile_cons, if_neg hc]
      rw [e, right_cons, if_neg (fun x => hc x.1)]
      unfold Lib.trimLeftS
      rw [List.dropWhile_cons, if_neg hc]
theorem ref_end {s t r : ByteArray} {k : Nat} (h1 : ls t = Lib.trimLeftS (ls s) [32, 9]) (h2 : ls r = (ls t).take k) (hk : k ≤ (ls t).length) (hc : ∀ (j : Nat) b, k ≤ j → (ls t)[j]? = some b → ([32, 9] : List UInt8).contains b = true) (h : ∀ b, 0 < k → (ls t)[k - 1]? = some b → ([32, 9] : List UInt8).contains b = false) : r = tx (trimT (ls s)) := by
  rw [← left_right, ← h1, Lib.trimRightS_take (ls t) [32, 9] k hk hc h, ← h2, tx_ls]
end Go.Proofs.YtdldoklkenhopaaGreatDoor.Fi
end

section
namespace Go.Proofs.YtdldoklkenhopaaGreatDoor.Fi
open Go.RowKit Go.PlainAid
open Hx
set_option linter.unusedVariables false
set_option maxRecDepth 20000
set_option linter.unusedSimpArgs false

def zFd : Array Value := #[.string ⟨#[]⟩, .string ⟨#[]⟩]
theorem zFd_is : zFd = fdV Fd.zero := rfl
theorem fd_stores {w : World} {B : Nat} {f g : Fd} (h : At w B 26 (fdV f)) : Stores Tryz.prog w 26 B 0 (fdV g) (w.setRow B (fdV g)) :=
  h.stores (by rw [fdV_size]; kernel_rfl) rfl (fdV_one g)
/-- the field of a line, and the error's number -/
def pF (l : List UInt8) : Fd := (parseF l).getD Fd.zero
def pE (l : List UInt8) : Int := if (parseF l).isSome then 0 else 3
theorem p_none {l : List UInt8} (h : parseF l = none) : pF l = Fd.zero ∧ pE l = 3 := by unfold pF pE; rw [h]; exact ⟨rfl, rfl⟩
theorem p_some {l : List UInt8} {f : Fd} (h : parseF l = some f) : pF l = f ∧ pE l = 0 := by unfold pF pE; rw [h]; exact ⟨rfl, rfl⟩
theorem parseF_cut_none {l : List UInt8} (h : cutB 58 l = none) : parseF l = none := by unfold parseF; rw [h]
theorem parseF_cut_bad {l x y : List UInt8} (h : cutB 58 l = some (x, y)) (hb : ¬ (isTok x = true ∧ isTxt y = true)) : parseF l = none := by unfold parseF; rw [h]; simp only; rw [if_neg hb]
theorem parseF_cut {l x y : List UInt8} (h : cutB 58 l = some (x, y)) (h1 : isTok x = true) (h2 : isTxt y = true) : parseF l = some ⟨tx x, tx (trimT y)⟩ := by unfold parseF; rw [h]; simp only; rw [if_pos ⟨h1, h2⟩]
theorem cutB_len {b : UInt8} {l x y : List UInt8} (h : cutB b l = some (x, y)) : x.length + y.length < l.length := by
  rw [(cutB_some h).1]; simp
theorem parseF_le {l : List UInt8} {f : Fd} (h : parseF l = some f) : f.n.size ≤ l.length ∧ f.v.size ≤ l.length := by
  unfold parseF at h
  cases hc : cutB 58 l with
  | none => rw [hc] at h; cases h
  | some p =>
    obtain ⟨x, y⟩ := p
    rw [hc] at h
    simp only at h
    split at h
    · have := cutB_len hc
      have := trimT_le y
      simp only [Option.some.injEq] at h
      subst h
      simp only [tx_size]
      omega
    · cases h
def ParsePost (l : List UInt8) (w : World) (e : Ending) (w' : World) : Prop := e = .returned (.tuple #[.agg (fdV (pF l)), .int .i64 (pE l)]) ∧ Below w.heap.size w w'
set_option maxHeartbeats 1000000 in
theorem parse_any (s : ByteArray) (w : World) (hs : s.size ≤ 1099511627776) :
    Calls Tryz.prog 74 #[.string s] w (ParsePost (ls s) w) := by
  have A0 := At.new w 26 zFd
  have F0 : Below w.heap.size w (w.alloc (.cells zFd 26)) := (Below.refl _ _).alloc (Nat.le_refl _) _
  cases hc : cutB 58 (ls s) with
  | none =>
    have P := Lib.hid (p_none (parseF_cut_none hc))
    have HC := Lib.hid hc
    clear hc
    go_enter Tryz.func74, Tryz.ntmps74
    go_upto_region 1 with (fail)
    unfold zFd at A0 F0
    generalize w.alloc (.cells #[.string ⟨#[]⟩, .string ⟨#[]⟩] 26) = w0 at A0 F0 ⊢
    go_wp2_with fail
    refine (cut_no s 58 _ hs HC.out).mono ?_
    rintro e w1 ⟨rfl, G⟩
    have A1 : At w1 w.heap.size 26 (fdV Fd.zero) := A0.old G
    have F1 := F0.trans (G.mono F0.size)
    clear A0 F0 G
    have S2 := fd_stores (g := Fd.zero) A1
    have A2 := A1.row (fdV Fd.zero)
    have F2 : Below w.heap.size w (w1.setRow w.heap.size (fdV Fd.zero)) := below_row F1 (Nat.le_refl _)
    clear A1 F1
    generalize w1.setRow w.heap.size (fdV Fd.zero) = w2 at S2 A2 F2
    go_wp2_with (refine wpl_store S2 rfl rfl rfl rfl rfl ?_)
    exact bodyPost_ret (results_cell_tmp Tryz.results74 _ rfl rfl (fd_loads A2)) rfl ⟨by rw [P.out.1, P.out.2]; rfl, F2⟩
  | some p =>
    obtain ⟨x, y⟩ := p
    have hlen := cutB_len hc
    rw [ls_len] at hlen
    have HC := Lib.hid hc
    have tok := isToken_any (tx x)
    rw [ls_tx, tx_size] at tok
    have txt := texts_any (tx y)
    rw [ls_tx, tx_size] at txt
    cases h1 : isTok x with
    | false =>
      have P := Lib.hid (p_none (parseF_cut_bad hc (by rw [h1]; simp)))
      rw [h1] at tok
      clear hc h1 txt
      go_enter Tryz.func74, Tryz.ntmps74
      go_upto_region 1 with (fail)
      unfold zFd at A0 F0
      generalize w.alloc (.cells #[.string ⟨#[]⟩, .string ⟨#[]⟩] 26) = w0 at A0 F0 ⊢
      go_wp2_with fail
      refine (cut_yes s 58 _ hs HC.out).mono ?_
      rintro e w1 ⟨rfl, G⟩
      have A1 : At w1 w.heap.size 26 (fdV Fd.zero) := A0.old G
      have F1 := F0.trans (G.mono F0.size)
      clear A0 F0 G
      have tok1 := tok w1 (by omega)
      clear tok
      generalize tx x = X at tok1 ⊢
      generalize tx y = Y at ⊢
      go_wp2_with fail
      refine tok1.mono ?_
      rintro e w' ⟨rfl, rfl⟩
      clear tok1
      have S2 := fd_stores (g := Fd.zero) A1
      have A2 := A1.row (fdV Fd.zero)
      have F2 : Below w.heap.size w (w1.setRow w.heap.size (fdV Fd.zero)) := below_row F1 (Nat.le_refl _)
      clear A1 F1
      generalize w1.setRow w.heap.size (fdV Fd.zero) = w2 at S2 A2 F2
      go_wp2_with (refine wpl_store S2 rfl rfl rfl rfl rfl ?_)
      exact bodyPost_ret (results_cell_tmp Tryz.results74 _ rfl rfl (fd_loads A2)) rfl ⟨by rw [P.out.1, P.out.2]; rfl, F2⟩
    | true =>
      rw [h1] at tok
      cases h2 : isTxt y with
      | false =>
        have P := Lib.hid (p_none (parseF_cut_bad hc (by rw [h2]; simp)))
        rw [h2] at txt
        clear hc h1 h2
        go_enter Tryz.func74, Tryz.ntmps74
        go_upto_region 1 with (fail)
        unfold zFd at A0 F0
        generalize w.alloc (.cells #[.string ⟨#[]⟩, .string ⟨#[]⟩] 26) = w0 at A0 F0 ⊢
        go_wp2_with fail
        refine (cut_yes s 58 _ hs HC.out).mono ?_
        rintro e w1 ⟨rfl, G⟩
        have A1 : At w1 w.heap.size 26 (fdV Fd.zero) := A0.old G
        have F1 := F0.trans (G.mono F0.size)
        clear A0 F0 G
        have tok1 := tok w1 (by omega)
        have txt1 := txt w1 (by omega)
        clear tok txt
        generalize tx x = X at tok1 ⊢
        generalize tx y = Y at txt1 ⊢
        go_wp2_with fail
        refine tok1.mono ?_
        rintro e w' ⟨rfl, rfl⟩
        clear tok1
        go_wp2_with fail
        refine txt1.mono ?_
        rintro e w' ⟨rfl, rfl⟩
        clear txt1
        have S2 := fd_stores (g := Fd.zero) A1
        have A2 := A1.row (fdV Fd.zero)
        have F2 : Below w.heap.size w (w1.setRow w.heap.size (fdV Fd.zero)) := below_row F1 (Nat.le_refl _)
        clear A1 F1
        generalize w1.setRow w.heap.size (fdV Fd.zero) = w2 at S2 A2 F2
        go_wp2_with (refine wpl_store S2 rfl rfl rfl rfl rfl ?_)
        exact bodyPost_ret (results_cell_tmp Tryz.results74 _ rfl rfl (fd_loads A2)) rfl ⟨by rw [P.out.1, P.out.2]; rfl, F2⟩
      | true =>
        have P := Lib.hid (p_some (parseF_cut hc h1 h2))
        rw [h2] at txt
        have tr := trim_any (tx y)
        rw [ls_tx, tx_size] at tr
        have tz := trimT_le y
        clear hc h1 h2
        go_enter Tryz.func74, Tryz.ntmps74
        go_upto_region 1 with (fail)
        unfold zFd at A0 F0
        generalize w.alloc (.cells #[.string ⟨#[]⟩, .string ⟨#[]⟩] 26) = w0 at A0 F0 ⊢
        go_wp2_with fail
        refine (cut_yes s 58 _ hs HC.out).mono ?_
        rintro e w1 ⟨rfl, G⟩
        have A1 : At w1 w.heap.size 26 (fdV Fd.zero) := A0.old G
        have F1 := F0.trans (G.mono F0.size)
        clear A0 F0 G
        have tok1 := tok w1 (by omega)
        have txt1 := txt w1 (by omega)
        have tr1 := fun w => tr w (by omega)
        have c1 := fun w => clone_any (tx x) w (by rw [tx_size]; omega)
        have c2 := fun w => clone_any (tx (trimT y)) w (by rw [tx_size]; omega)
        clear tok txt tr tz
        generalize tx x = X at tok1 c1 P ⊢
        generalize tx (trimT y) = T at tr1 c2 P ⊢
        generalize tx y = Y at txt1 tr1 ⊢
        go_wp2_with fail
        refine tok1.mono ?_
        rintro e w' ⟨rfl, rfl⟩
        clear tok1
        go_wp2_with fail
        refine txt1.mono ?_
        rintro e w' ⟨rfl, rfl⟩
        clear txt1
        go_wp2_with fail
        refine (c1 _).mono ?_
        rintro e w2 ⟨rfl, G2⟩
        replace A1 := A1.old G2
        replace F1 := F1.trans (G2.mono F1.size)
        clear c1 G2
        go_wp2_with fail
        refine (tr1 _).mono ?_
        rintro e w3 ⟨rfl, G3⟩
        replace A1 := A1.old G3
        replace F1 := F1.trans (G3.mono F1.size)
        clear tr1 G3
        go_wp2_with fail
        refine (c2 _).mono ?_
        rintro e w4 ⟨rfl, G4⟩
        replace A1 := A1.old G4
        replace F1 := F1.trans (G4.mono F1.size)
        clear c2 G4
        have S2 := fd_stores (g := ⟨X, T⟩) A1
        have A2 := A1.row (fdV ⟨X, T⟩)
        have F2 : Below w.heap.size w (w4.setRow w.heap.size (fdV ⟨X, T⟩)) := below_row F1 (Nat.le_refl _)
        clear A1 F1
        generalize w4.setRow w.heap.size (fdV ⟨X, T⟩) = w5 at S2 A2 F2
        go_wp2_with (refine wpl_store S2 rfl rfl rfl rfl rfl ?_)
        exact bodyPost_ret (results_cell_tmp Tryz.results74 _ rfl rfl (fd_loads A2)) rfl ⟨by rw [P.out.1, P.out.2]; rfl, F2⟩
end Go.Proofs.YtdldoklkenhopaaGreatDoor.Fi
end

section
namespace Go.Proofs.YtdldoklkenhopaaGreatDoor.Fi
open Go.RowKit Go.PlainAid
open Hx
set_option linter.unusedVariables false
set_option maxRecDepth 20000
set_option linter.unusedSimpArgs false

theorem lineF_err {full : Bool} {l : List UInt8} {e : Int} (h : lineF full l = .error e) :
    (cutB 10 l = none ∧ e = (if full = true then 4 else 17)) ∨ (∃ t r, cutB 10 l = some (t, r) ∧ e = 3 ∧ (t.getLast? ≠ some 13 ∨ ∃ x, t = x ++ [13] ∧ (13 : UInt8) ∈ x)) := by
  unfold lineF at h
  cases hc : cutB 10 l with
  | none => rw [hc] at h; simp at h; exact .inl ⟨rfl, h.symm⟩
  | some p =>
    obtain ⟨t, r⟩ := p
    rw [hc] at h
    simp only at h
    split at h
    · cases h
    · rename_i hn
      refine .inr ⟨t, r, rfl, by cases h; rfl, ?_⟩
      by_cases c : t.getLast? = some 13
      · right
        obtain ⟨x, rfl⟩ := List.getLast?_eq_some_iff.1 c
        refine ⟨x, rfl, ?_⟩
        by_cases m : (13 : UInt8) ∈ x
        · exact m
        · exact absurd ⟨c, by simpa using m⟩ hn
      · exact .inl c
theorem lineF_ne {full : Bool} {l : List UInt8} {e : Int} (h : lineF full l = .error e) : e = 3 ∨ e = 4 ∨ e = 17 := by
  rcases lineF_err h with ⟨_, e⟩ | ⟨t, r, _, e, _⟩
  · split at e <;> omega
  · omega
theorem drop_is (s : ByteArray) (k : Nat) : ls (s.extract k s.size) = (ls s).drop k := by
  rw [ls_extract]
  exact List.take_of_length_le (by rw [List.length_drop, ls_len]; exact Nat.le_refl _)
set_option maxHeartbeats 1000000 in
theorem lineAt_err (head : ByteArray) (k : Nat) (w : World) (hs : head.size ≤ 1099511627776) (hk : k ≤ head.size) {e0 : Int} (h : lineF (decide (head.size = 4096)) ((ls head).drop k) = .error e0) :
    Calls Tryz.prog 73 #[.string head, .int .i64 k] w fun e w' => e = .returned (.tuple #[.string ⟨#[]⟩, .int .i64 0, .int .i64 e0]) ∧ Below w.heap.size w w' := by
  have i1 : (0 : Int) ≤ (k : Int) := Int.natCast_nonneg _
  have i2 : (k : Int) ≤ (head.size : Int) := by omega
  have ht : (head.extract k head.size).size ≤ 1099511627776 := by rw [ByteArray.size_extract]; omega
  rcases lineF_err h with ⟨hc, he⟩ | ⟨t, r, hc, rfl, ht2⟩
  · have r1 := fun w => cut_no (head.extract k head.size) 10 w ht (by rw [drop_is]; exact hc)
    clear hc h ht
    by_cases hz : head.size = 4096
    · rw [decide_eq_true hz] at he
      obtain rfl : e0 = 4 := by simpa using he
      clear he
      have g : ((head.size : Int) == 4096) = true := by rw [hz]; rfl
      clear hz
      go_enter Tryz.func73, Tryz.ntmps73
      go_wp2_with fail
      refine (r1 _).mono ?_
      rintro e w1 ⟨rfl, G⟩
      clear r1
      go_wp2
      go_ret3
      exact ⟨rfl, G⟩
    · rw [decide_eq_false hz] at he
      obtain rfl : e0 = 17 := by simpa using he
      clear he
      have g : ((head.size : Int) == 4096) = false := by rw [beq_eq_false_iff_ne]; omega
      clear hz
      go_enter Tryz.func73, Tryz.ntmps73
      go_wp2_with fail
      refine (r1 _).mono ?_
      rintro e w1 ⟨rfl, G⟩
      clear r1
      go_wp2
      go_ret3
      exact ⟨rfl, G⟩
  · have r1 := fun w => cut_yes (head.extract k head.size) 10 w ht (by rw [drop_is]; exact hc)
    have hl := cutB_len hc
    rw [List.length_drop, ls_len] at hl
    clear hc h ht
    rcases ht2 with hn | ⟨x, rfl, hm⟩
    · have r2 := fun w => suf_no (tx t) w (by rw [tx_size]; omega) (by rw [ls_tx]; exact hn)
      clear hn
      generalize tx t = T at r1 r2
      generalize tx r = R at r1
      go_enter Tryz.func73, Tryz.ntmps73
      go_wp2_with fail
      refine (r1 _).mono ?_
      rintro e w1 ⟨rfl, G⟩
      clear r1
      go_wp2_with fail
      refine (r2 _).mono ?_
      rintro e w2 ⟨rfl, rfl⟩
      clear r2
      go_wp2
      go_ret3
      exact ⟨rfl, G⟩
    · rw [List.length_append] at hl
      have r2 := fun w => suf_yes (tx (x ++ [13])) x w (by rw [tx_size, List.length_append]; omega) (by rw [ls_tx])
      have r3 := fun w => has13_any (tx x) w (by rw [tx_size]; omega)
      rw [ls_tx, decide_eq_true hm] at r3
      clear hm
      generalize tx (x ++ [13]) = T at r1 r2
      generalize tx r = R at r1
      generalize tx x = X at r2 r3
      go_enter Tryz.func73, Tryz.ntmps73
      go_wp2_with fail
      refine (r1 _).mono ?_
      rintro e w1 ⟨rfl, G⟩
      clear r1
      go_wp2_with fail
      refine (r2 _).mono ?_
      rintro e w2 ⟨rfl, rfl⟩
      clear r2
      go_wp2_with fail
      refine (r3 _).mono ?_
      rintro e w2 ⟨rfl, rfl⟩
      clear r3
      go_wp2
      go_ret3
      exact ⟨rfl, G⟩
theorem lineF_cut {full : Bool} {l x r : List UInt8} (h : lineF full l = .ok (x, r)) : cutB 10 l = some (x ++ [13], r) ∧ (13 : UInt8) ∉ x := by
  obtain ⟨e, h3, h0⟩ := lineF_ok h
  refine ⟨?_, h3⟩
  rw [e, show x ++ 13 :: 10 :: r = (x ++ [13]) ++ 10 :: r by simp]
  exact cutB_of (by simp [h0])
set_option maxHeartbeats 1000000 in
theorem lineAt_ok (head : ByteArray) (k : Nat) (w : World) (hs : head.size ≤ 1099511627776) (hk : k ≤ head.size) {x r : List UInt8} (h : lineF (decide (head.size = 4096)) ((ls head).drop k) = .ok (x, r)) :
    Calls Tryz.prog 73 #[.string head, .int .i64 k] w fun e w' => e = .returned (.tuple #[.string (tx x), .int .i64 (k + x.length + 2 : Nat), .int .i64 0]) ∧ Below w.heap.size w w' := by
  have i1 : (0 : Int) ≤ (k : Int) := Int.natCast_nonneg _
  have i2 : (k : Int) ≤ (head.size : Int) := by omega
  have ht : (head.extract k head.size).size ≤ 1099511627776 := by rw [ByteArray.size_extract]; omega
  obtain ⟨hc, hm⟩ := lineF_cut h
  have r1 := fun w => cut_yes (head.extract k head.size) 10 w ht (by rw [drop_is]; exact hc)
  have hl := cutB_len hc
  rw [List.length_drop, ls_len, List.length_append] at hl
  have r2 := fun w => suf_yes (tx (x ++ [13])) x w (by rw [tx_size, List.length_append]; omega) (by rw [ls_tx])
  have r3 := fun w => has13_any (tx x) w (by rw [tx_size]; omega)
  rw [ls_tx, decide_eq_false hm] at r3
  have hz : (tx (x ++ [13])).size = x.length + 1 := by rw [tx_size, List.length_append]; rfl
  clear hm hc h ht
  generalize tx (x ++ [13]) = T at r1 r2 hz
  generalize tx r = R at r1
  generalize hX : tx x = X at r2 r3
  have HX := Lib.hid hX
  clear hX
  have HZ := Lib.hid hz
  have hz2 : (T.size : Int) ≤ 1099511627776 := by omega
  have e1 : (k : Int) + (T.size : Int) + 1 = ((k + x.length + 2 : Nat) : Int) := by omega
  have E1 := Lib.hid e1
  have hl2 : (x.length : Int) + 1 ≤ (head.size : Int) := by simp at hl; omega
  simp at hl
  clear hz e1
  go_enter Tryz.func73, Tryz.ntmps73
  go_wp2_with fail
  refine (r1 _).mono ?_
  rintro e w1 ⟨rfl, G⟩
  clear r1
  go_wp2_with fail
  refine (r2 _).mono ?_
  rintro e w2 ⟨rfl, rfl⟩
  clear r2
  go_wp2_with fail
  refine (r3 _).mono ?_
  rintro e w2 ⟨rfl, rfl⟩
  clear r3
  go_wp2
  go_ret3
  exact ⟨by first | (rw [← E1.out]; rfl) | (rw [← E1.out, HX.out]; rfl), G⟩
theorem tx_nil_of {x : List UInt8} (h : x = []) : (tx x).toList = [] := toList_nil _ (by subst h; rfl)
theorem tx_ne_of {x : List UInt8} (h : x ≠ []) : (tx x).toList.isEmpty = false ∧ ¬ (tx x).toList = [] := by
  have hz : 0 < (tx x).size := by
    rw [tx_size]
    cases x with
    | nil => exact absurd rfl h
    | cons a b => simp
  exact ⟨toList_ne _ hz, toList_ne' _ hz⟩
/-- the start line -/
def stF (full : Bool) (l : List UInt8) : Except Int (List UInt8 × List UInt8) :=
  match lineF full l with
  | .error e => .error e
  | .ok (x, r) => if x = [] then .error 3 else if 1024 < x.length then .error 4 else .ok (x, r)
theorem stF_of {full : Bool} {l : List UInt8} : ∀ {e : Int}, lineF full l = .error e → stF full l = .error e := by
  intro e h; unfold stF; rw [h]
def StPost (full : Bool) (l : List UInt8) (w : World) (e : Ending) (w' : World) : Prop :=
  ((∃ x r, stF full l = .ok (x, r) ∧ e = .returned (.tuple #[.string (tx x), .int .i64 (x.length + 2 : Nat), .int .i64 0])) ∨ (∃ e0, stF full l = .error e0 ∧ e = .returned (.tuple #[.string ⟨#[]⟩, .int .i64 0, .int .i64 e0]))) ∧ Below w.heap.size w w'
theorem startOf_any (head : ByteArray) (w : World) (hs : head.size ≤ 1099511627776) :
    Calls Tryz.prog 54 #[.string head] w (StPost (decide (head.size = 4096)) (ls head) w) := by
  cases h : lineF (decide (head.size = 4096)) (ls head) with
  | error e0 =>
    have hne := lineF_ne h
    have r1 := fun w => lineAt_err head 0 w hs (Nat.zero_le _) (by rw [List.drop_zero]; exact h)
    have H := Lib.hid (stF_of h)
    have g : (e0 != 0) = true := by rw [bne_iff_ne]; omega
    clear h hne
    go_enter Tryz.func54, Tryz.ntmps54
    go_wp2_with fail
    refine (r1 _).mono ?_
    rintro e w1 ⟨rfl, G⟩
    clear r1
    go_wp2
    go_ret3
    exact ⟨.inr ⟨e0, H.out, rfl⟩, G⟩
  | ok p =>
    obtain ⟨x, r⟩ := p
    have r1 := fun w => lineAt_ok head 0 w hs (Nat.zero_le _) (by rw [List.drop_zero]; exact h)
    have hl := lineF_len h
    rw [ls_len] at hl
    by_cases hx : x = []
    · have H := Lib.hid (show stF (decide (head.size = 4096)) (ls head) = .error 3 by unfold stF; rw [h]; simp only; rw [if_pos hx])
      have t1 := tx_nil_of hx
      subst hx
      clear h
      generalize tx [] = X at r1 t1
      go_enter Tryz.func54, Tryz.ntmps54
      go_wp2_with fail
      refine (r1 _).mono ?_
      rintro e w1 ⟨rfl, G⟩
      clear r1
      go_wp2
      go_ret3
      exact ⟨.inr ⟨3, H.out, rfl⟩, G⟩
    · obtain ⟨t1, t2⟩ := tx_ne_of hx
      have hz : (tx x).size = x.length := tx_size x
      by_cases hc : 1024 < x.length
      · have H := Lib.hid (show stF (decide (head.size = 4096)) (ls head) = .error 4 by unfold stF; rw [h]; simp only; rw [if_neg hx, if_pos hc])
        clear h hx
        generalize tx x = X at r1 t1 t2 hz
        have l1 : (1024 : Int) < (X.size : Int) := by omega
        clear hz
        go_enter Tryz.func54, Tryz.ntmps54
        go_wp2_with fail
        refine (r1 _).mono ?_
        rintro e w1 ⟨rfl, G⟩
        clear r1
        go_wp2
        go_ret3
        exact ⟨.inr ⟨4, H.out, rfl⟩, G⟩
      · have H := Lib.hid (show stF (decide (head.size = 4096)) (ls head) = .ok (x, r) by unfold stF; rw [h]; simp only; rw [if_neg hx, if_neg hc])
        clear h hx
        generalize hX : tx x = X at r1 t1 t2 hz
        have HX := Lib.hid hX
        clear hX
        have l1 : ¬ (1024 : Int) < (X.size : Int) := by omega
        clear hz
        rw [Nat.zero_add] at r1
        go_enter Tryz.func54, Tryz.ntmps54
        go_wp2_with fail
        refine (r1 _).mono ?_
        rintro e w1 ⟨rfl, G⟩
        clear r1
        go_wp2
        go_ret3
        exact ⟨.inl ⟨x, r, H.out, by first | rfl | (rw [HX.out]; rfl)⟩, G⟩
end Go.Proofs.YtdldoklkenhopaaGreatDoor.Fi
end
