/-
  Memory: blocks of cells, fields in memory, rows of texts and of fields: what is read, what is appended, what stays; two fields held against each other.
-/
import Derived.Test.YtdldoklkenhopaaDoorFiTok
import Derived.Test.YtdldoklkenhopaaDoorHxRow
import Derived.StillTailTactics
import Derived.Laws.Rows
import Derived.Laws.CopyRow
import Derived.Laws.StructEq
import Derived.Stop.BytesEq
import Derived.Great.BuildSlice
import Derived.Deep.Slices
import Derived.Deep.WholeRow
import Derived.SliceStrings
import Derived.Deep.RegionHeld3
import Derived.Deep.DeepCutAuto
import Derived.BigQuiet
namespace Go.Proofs.YtdldoklkenhopaaDoor.Fi
open Go.RowKit Go.PlainAid
open Hx
set_option linter.unusedVariables false
set_option maxRecDepth 20000
set_option linter.unusedSimpArgs false

theorem add_at (B o j : Nat) : (⟨B, o, none⟩ : Addr).add j = ⟨B, o + j, none⟩ := by unfold Addr.add; split <;> simp_all
theorem add_block (a : Addr) (j : Nat) : (a.add j).block = a.block := by unfold Addr.add; split <;> rfl
theorem size_of {P : Program} {t : TypeId} {n : Nat} (h : (P.info? t).map (·.size) = some n) (w : World) : (sizeOf t).run P w = .ok n w := by
  cases hq : P.info? t with
  | none => simp [hq] at h
  | some i => simp [hq] at h; simp [sizeOf, typeInfo, hq, h]
theorem load_part {P : Program} {w : World} {B : Nat} {cs : Array Value} {T : Nat} {fr : Nat × Nat} (hg : w.heap[B]? = some (.cells cs T fr)) (o n : Nat) (ho : o + n ≤ cs.size) :
    (loadCellsFrom ⟨B, o, none⟩ 0 n #[]).run P w = .ok (cs.extract o (o + n)) w := by
  have := run_loadCells_list (P := P) w ⟨B, o, none⟩ (cs.extract o (o + n)).toList (fun j v hv => by
    rw [add_at, cell_of_row _ _ _ _ _ _ hg]
    have hj : j < n := by
      have := List.getElem?_eq_some_iff.1 hv
      obtain ⟨h, _⟩ := this
      simp at h; omega
    simpa [Array.getElem?_extract, hj, show o + j < o + n by omega] using hv)
  have hs : (cs.extract o (o + n)).toList.length = n := by simp; omega
  rw [hs, Array.toArray_toList] at this
  exact this
def aggOf (P : Program) (t : TypeId) : Bool := match P.underlying t with | some (.struct _) => true | some (.array _ _) => true | _ => false
theorem run_isAgg {P : Program} {t : TypeId} (h : aggOf P t = true) (w : World) : (isAgg t).run P w = .ok true w := by
  unfold aggOf at h
  split at h <;> first | (rename_i hu; unfold isAgg; rw [Sem.run_bind, run_underlying hu w]; simp) | cases h
def Loads (P : Program) (w : World) (ty : TypeId) (a : Addr) (cs : Array Value) : Prop := (loadVar ty a).run P w = .ok (.agg cs) w
def Stores (P : Program) (w : World) (ty : TypeId) (B off : Nat) (cs : Array Value) (w' : World) : Prop := (storeVar ty ⟨B, off, none⟩ (.agg cs)).run P w = .ok () w'
section
variable {P : Program} {ops : Array Oper} {rest : List Oper} {o : Oper} {a : Act} {w w' : World} {Q : Exit → Act → World → Prop} {ty : TypeId} {x y : Operand} {ad : Addr} {B off : Nat} {cs : Array Value}
theorem wpl_load (hl : Loads P w ty ad cs) (hgd : o.guard = none) (hop : o.op = .load ty x) (hx : a.eval x = .pointer (some ad)) (h : wpList P ops Q rest (a.put o.dst (.agg cs)) w) : wpList P ops Q (o :: rest) a w :=
  wpList_plain hgd fun _ hK => by
    unfold Oper.wp execOp
    simp only [hop, hx, Instr.loadAt, Instr.sureAddr, Sem.run_bind, Sem.run_pure, Result.andThen_ok, show (loadVar ty ad).run P w = .ok (.agg cs) w from hl]
    exact hK _ _ h
theorem wpl_load_in (hl : Loads P w ty ad cs) (hw : Region.wanted o (yielded ops a.tmps) = true) (hop : o.op = .load ty x) (hx : a.eval x = .pointer (some ad)) (h : wpList P ops Q rest (a.put o.dst (.agg cs)) w) : wpList P ops Q (o :: rest) a w := by
  refine wpList_step fun K hK => ?_
  rw [if_pos hw]
  unfold Oper.wp execOp
  simp only [hop, hx, Instr.loadAt, Instr.sureAddr, Sem.run_bind, Sem.run_pure, Result.andThen_ok, show (loadVar ty ad).run P w = .ok (.agg cs) w from hl]
  exact hK _ _ h
theorem wpl_store (hl : Stores P w ty B off cs w') (hgd : o.guard = none) (hop : o.op = .store ty x y) (hd : o.dst = none) (hx : a.eval x = .pointer (some ⟨B, off, none⟩)) (hy : a.eval y = .agg cs) (h : wpList P ops Q rest a w') : wpList P ops Q (o :: rest) a w :=
  wpList_plain hgd fun _ hK => by
    unfold Oper.wp execOp
    simp only [hop, hx, hy, Instr.storeAt, Instr.sureAddr, Sem.run_bind, Sem.run_pure, Result.andThen_ok, show (storeVar ty ⟨B, off, none⟩ (.agg cs)).run P w = .ok () w' from hl]
    refine hK _ _ ?_
    rw [hd]
    exact h
theorem wps_load {Q : Act → Prop} (hl : Loads P w ty ad cs) (hgd : o.guard = none) (hop : o.op = .load ty x) (hx : a.eval x = .pointer (some ad)) (h : wpStill P ops w Q rest (a.put o.dst (.agg cs))) : wpStill P ops w Q (o :: rest) a := by
  refine wpStill_step fun K hK => ?_
  rw [if_pos (by simp [Region.wanted, hgd])]
  unfold Oper.still execOp
  simp only [hop, hx, Instr.loadAt, Instr.sureAddr, Sem.run_bind, Sem.run_pure, Result.andThen_ok, show (loadVar ty ad).run P w = .ok (.agg cs) w from hl]
  exact ⟨rfl, hK _ h⟩
theorem yields_load {S : World → Prop} {oi : Oper} (hl : ∀ w, S w → Loads P w ty ad cs) (hw : Region.wanted oi (yielded ops a.tmps) = true) (hop : oi.op = .load ty x) (hx : a.eval x = .pointer (some ad)) : YieldsIf P ops S oi (.agg cs) a := by
  refine Or.inl ⟨hw, fun w hS => ?_⟩
  unfold execOp
  simp only [hop, hx, Instr.loadAt, Instr.sureAddr, Sem.run_bind, Sem.run_pure, Result.andThen_ok, show (loadVar ty ad).run P w = .ok (.agg cs) w from hl w hS]
theorem loads_part {cur : Array Value} {T n : Nat} {fr : Nat × Nat} (hg : w.heap[B]? = some (.cells cur T fr)) (ha : aggOf P ty = true) (hi : (P.info? ty).map (·.size) = some n) (ho : off + n ≤ cur.size) : Loads P w ty ⟨B, off, none⟩ (cur.extract off (off + n)) := by
  unfold Loads loadVar
  have hl := load_part (P := P) hg off n ho
  have hz := size_of hi w
  simp only [Sem.run_bind, run_isAgg ha w, Result.andThen_ok, if_true, hz, loadCells, hl]
  rfl
theorem stores_part {cur : Array Value} {T : Nat} (hg : w.heap[B]? = some (.cells cur T (0, 0))) (hi : (P.info? ty).map (·.size) = some cs.size) (ho : off + cs.size ≤ cur.size) (h1 : ∀ v ∈ cs.toList, v.oneCell' = true) :
    Stores P w ty B off cs (w.setRow B (cur.toList.take off ++ cs.toList ++ cur.toList.drop (off + cs.size)).toArray) := by
  unfold Stores storeVar
  have hz := size_of hi w
  have hs := run_storeCells_at (P := P) B off T cs.toList 0 cur w hg (by simpa using ho) h1
  simp only [Nat.add_zero, Array.length_toList] at hs
  simp only [Sem.run_bind, hz, Result.andThen_ok, Value.cells, ne_eq, not_true_eq_false, if_false, hs]
theorem heap_setRow_other {C : Nat} (hc : C ≠ B) : (w.setRow B cs).heap[C]? = w.heap[C]? := by
  simp only [World.setRow, Array.getElem?_modify]
  rw [if_neg (by omega)]
theorem below_row {N : Nat} {w0 : World} (h : Below N w0 w) (hB : N ≤ B) : Below N w0 (w.setRow B cs) :=
  h.trans ⟨rfl, rfl, rfl, by simp, fun k hk => heap_setRow_other (by omega)⟩
theorem below_set {N : Nat} {w0 : World} (h : Below N w0 w) (j : Nat) (v : Value) (hB : N ≤ B := by exact Nat.le_refl _) : Below N w0 (w.setCell ⟨B, j, none⟩ v) :=
  h.trans ⟨rfl, rfl, rfl, by simp, fun k hk => Below.heap_setCell _ _ _ _ (by show k ≠ B; omega)⟩
theorem heap_set (w : World) (B j : Nat) (v : Value) (cs : Array Value) (t : TypeId) (fr : Nat × Nat) (h : w.heap[B]? = some (.cells cs t fr)) :
    (w.setCell ⟨B, j, none⟩ v).heap[B]? = some (.cells (cs.setIfInBounds j v) t fr) := by
  simp [World.setCell, Array.getElem?_modify, h]
end

/-- block B holds the cells cs of type T, which may be written -/
structure At (w : World) (B T : Nat) (cs : Array Value) : Prop where
  heap : w.heap[B]? = some (.cells cs T (0, 0))
section
variable {P : Program} {w w' : World} {B T : Nat} {cs : Array Value}
theorem At.lt (h : At w B T cs) : B < w.heap.size := (Array.getElem?_eq_some_iff.1 h.heap).1
theorem At.same (h : At w B T cs) (e : w'.heap[B]? = w.heap[B]?) : At w' B T cs := ⟨by rw [e]; exact h.heap⟩
theorem At.below {N : Nat} (h : At w B T cs) (hb : Below N w w') (hN : B < N) : At w' B T cs := h.same (hb.block B hN)
theorem At.old (h : At w B T cs) (hb : Below w.heap.size w w') : At w' B T cs := h.below hb h.lt
theorem At.alloc (h : At w B T cs) (o : Obj) : At (w.alloc o) B T cs := h.same (Below.heap_alloc _ _ _ h.lt)
theorem At.drew (h : At w B T cs) : At w.drew B T cs := ⟨h.heap⟩
theorem At.other (h : At w B T cs) {a : Addr} (ha : B ≠ a.block) (v : Value) : At (w.setCell a v) B T cs := h.same (Below.heap_setCell _ _ _ _ ha)
theorem At.rowOther {C : Nat} {ds : Array Value} (h : At w C T cs) (hc : C ≠ B) : At (w.setRow B ds) C T cs := h.same (heap_setRow_other hc)
theorem At.new (w : World) (T : Nat) (cs : Array Value) : At (w.alloc (.cells cs T)) w.heap.size T cs := ⟨heap_alloc_new w _⟩
theorem At.cell (h : At w B T cs) (j : Nat) : w.cell? ⟨B, j, none⟩ = cs[j]? := cell_of_row _ _ _ _ _ _ h.heap
theorem At.frozen (h : At w B T cs) (j : Nat) : w.frozen? ⟨B, j, none⟩ = false := frozen_of_row _ _ _ _ _ h.heap
theorem At.set (h : At w B T cs) (j : Nat) (v : Value) : At (w.setCell ⟨B, j, none⟩ v) B T (cs.setIfInBounds j v) := ⟨heap_set _ _ _ _ _ _ _ h.heap⟩
theorem At.row (h : At w B T cs) (ds : Array Value) : At (w.setRow B ds) B T ds := ⟨setRow_heap w B _ _ T _ h.heap⟩
theorem At.loads {ty : TypeId} (h : At w B T cs) (ha : aggOf P ty = true) (hi : (P.info? ty).map (·.size) = some cs.size) : Loads P w ty ⟨B, 0, none⟩ cs := by
  have := loads_part (off := 0) h.heap ha hi (by simp)
  simpa using this
theorem At.stores {ty : TypeId} {ds : Array Value} (h : At w B T cs) (hi : (P.info? ty).map (·.size) = some ds.size) (hs : ds.size = cs.size) (h1 : ∀ v ∈ ds.toList, v.oneCell' = true) : Stores P w ty B 0 ds (w.setRow B ds) := by
  have := stores_part (P := P) (ty := ty) (off := 0) (cs := ds) h.heap hi (by omega) h1
  have e : (cs.toList.take 0 ++ ds.toList ++ cs.toList.drop (0 + ds.size)).toArray = ds := by
    rw [Nat.zero_add, hs, List.drop_of_length_le (by simp)]
    simp
  rw [e] at this
  exact this
/-- a variable that is made and filled -/
theorem keep {ty : TypeId} (w : World) (z ds : Array Value) (T : Nat) (hi : (P.info? ty).map (·.size) = some ds.size) (hs : ds.size = z.size) (h1 : ∀ v ∈ ds.toList, v.oneCell' = true) :
    ∃ X, Stores P (w.alloc (.cells z T)) ty w.heap.size 0 ds X ∧ At X w.heap.size T ds ∧ Below w.heap.size w X ∧ X.heap.size = w.heap.size + 1 :=
  ⟨_, (At.new w T z).stores hi hs h1, (At.new w T z).row ds, below_row ((Below.refl _ _).alloc (Nat.le_refl _) _) (Nat.le_refl _), by simp⟩
end

/-! ### regions that draw, under an invariant -/
section
variable {P : Program} {md : Region.Mode} {ops : Array Oper} {Q : Exit → Act → World → Prop} {S : World → Prop} {i fuel : Nat} {listed : Array Bool} {a : Act} {w : World} {oi : Oper}
theorem held_take (i : Nat) (v : Value) (hi : ops[i]? = some oi) (hs : Region.noSelect ops = true) (hf : Region.free md ops listed i = true) (hr : (Region.ready md ops listed).contains i = true)
    (hQ : ∀ c a w, Q (.panic c) (a.put oi.dst v) w → Q (.panic c) a w) (hy : YieldsIf P ops S oi v a) (hS : S w)
    (h : ∀ K : Act → World → Prop, (∀ a w, wpAnyH P md ops Q S fuel (listed.setIfInBounds i true) a w → K a w) → K (a.put oi.dst v) w) : wpAnyH P md ops Q S (fuel + 1) listed a w :=
  wpAnyH_take hi hs hf hr hQ hy hS (h _ fun _ _ h => h)
theorem held_one (i : Nat) (hr : Region.ready md ops listed = [i])
    (h1 : ∀ K : Act → World → Prop, (∀ a w, S w → wpAnyH P md ops Q S fuel (listed.setIfInBounds i true) a w → K a w) → wpOp P ops Q i K a w) : wpAnyH P md ops Q S (fuel + 1) listed a w :=
  wpAnyH_all hr (by simp) (by intro k hk; simp at hk; subst hk; exact h1 _ fun _ _ hs h => ⟨hs, h⟩)
theorem wpOp_in {K : Act → World → Prop} (hi : ops[i]? = some oi) (hw : Region.wanted oi (yielded ops a.tmps) = true) (h : oi.wp P a w K Q) : wpOp P ops Q i K a w := by
  unfold wpOp
  simp only [hi]
  rw [if_pos hw]
  exact Or.inl h
end

/-! ### fields -/
def fdL (f : Fd) : List Value := [.string f.n, .string f.v]
def fdV (f : Fd) : Array Value := #[.string f.n, .string f.v]
theorem fdV_size (f : Fd) : (fdV f).size = 2 := rfl
theorem fdV_list (f : Fd) : (fdV f).toList = fdL f := rfl
theorem fd0 (f : Fd) : (fdV f)[0]? = some (.string f.n) := rfl
theorem fd1 (f : Fd) : (fdV f)[1]? = some (.string f.v) := rfl
theorem fdL_one (f : Fd) : ∀ v ∈ fdL f, v.oneCell' = true := by
  intro v hv
  simp [fdL] at hv
  rcases hv with rfl | rfl <;> rfl
theorem fdV_one (f : Fd) : ∀ v ∈ (fdV f).toList, v.oneCell' = true := fdL_one f
theorem part_one {P : Program} {t : TypeId} {cs : Array Value} {off : Nat} {v : Value} {d : TypeDesc} (hu : P.underlying t = some d) (hd : (match d with | .struct _ | .array _ _ => true | _ => false) = false) (h : cs[off]? = some v) (w : World) : (part t cs off).run P w = .ok v w := by
  unfold part isAgg
  simp only [Sem.run_bind, run_underlying hu w, Result.andThen_ok, h]
  cases d <;> simp_all
theorem toList_eq_iff (a b : ByteArray) : (a.toList == b.toList) = true ↔ a = b := by
  rw [beq_iff_eq, ByteArray.toList_eq, ByteArray.toList_eq, Array.toList_inj]
  exact ⟨fun h => ByteArray.ext h, fun h => by rw [h]⟩
open Classical in
theorem eq_fd (x y : Fd) (w : World) : (Op.equalIn 10000 26 (.agg (fdV x)) (.agg (fdV y))).run Tryd.prog w = .ok (decide (x = y)) w := by
  have hf : (Tryd.prog.fieldsOf 26).toList = [⟨ "Name", 9, 0, false, "", "", 0⟩, ⟨ "Value", 9, 1, false, "", "", 16⟩] := by kernel_rfl
  rw [run_equalIn_struct w 9999 26 (fdV x) (fdV y) (by kernel_rfl) (by kernel_rfl), hf]
  clear hf
  have p0 := fun z : Fd => part_one (P := Tryd.prog) Tryd.underlying9 rfl (fd0 z)
  have p1 := fun z : Fd => part_one (P := Tryd.prog) Tryd.underlying9 rfl (fd1 z)
  have q0 := run_equalIn_string (P := Tryd.prog) w 9998 9 x.n y.n Tryd.underlying9
  have q1 := run_equalIn_string (P := Tryd.prog) w 9998 9 x.v y.v Tryd.underlying9
  simp only [Op.eqFields, Sem.run_bind, Sem.run_ite, Sem.run_pure, Result.andThen_ok, p0, p1, q0, q1, if_true]
  have t : ∀ (a b : ByteArray), (a.toList == b.toList) = decide (a = b) := fun a b => by
    rw [Bool.eq_iff_iff, toList_eq_iff, decide_eq_true_iff]
  simp only [t]
  have e : x = y ↔ x.n = y.n ∧ x.v = y.v := by
    cases x; cases y; simp
  have e' : decide (x = y) = decide (x.n = y.n ∧ x.v = y.v) := decide_eq_decide.2 e
  rw [e']
  by_cases a0 : x.n = y.n <;> by_cases a1 : x.v = y.v <;> simp [a0, a1]
/-- a field that is laid into a variable -/
theorem fd_keep (w : World) (f : Fd) :
    ∃ X, Stores Tryd.prog (w.alloc (.cells #[.string ⟨#[]⟩, .string ⟨#[]⟩] 26)) 26 w.heap.size 0 (fdV f) X ∧ At X w.heap.size 26 (fdV f) ∧ Below w.heap.size w X ∧ X.heap.size = w.heap.size + 1 :=
  keep w _ (fdV f) 26 (by rw [fdV_size]; kernel_rfl) rfl (fdV_one f)
theorem fd_loads {w : World} {B : Nat} {f : Fd} (h : At w B 26 (fdV f)) : Loads Tryd.prog w 26 ⟨B, 0, none⟩ (fdV f) :=
  h.loads (by kernel_rfl) (by rw [fdV_size]; kernel_rfl)

/-! ### rows of texts -/
theorem owns_below {w w' : World} {B e sz : Nat} {v : Value} {n : Nat} {xs : List Value} (h : w.ownsRow B e sz v n xs) (hb : Below w.heap.size w w') : w'.ownsRow B e sz v n xs := by
  refine h.kept (row := none) ⟨hb.os, hb.tape, hb.output, hb.size, fun k hk _ => hb.block k hk⟩ ?_
  cases v.ownBlock <;> simp
/-- v reads as the texts ss in w -/
structure StrsAt (w : World) (v : Value) (ss : List ByteArray) : Prop where
  is : ∃ base cap, v = .slice base ss.length cap ∧ ss.length ≤ cap ∧ ∀ j s, ss[j]? = some s → ∃ a : Addr, base = some a ∧ a.block < w.heap.size ∧ w.cell? (a.add j) = some (.string s)
theorem none_strs (w : World) : StrsAt w (.slice none 0 0) [] := ⟨none, 0, rfl, Nat.le_refl _, by simp⟩
theorem StrsAt.below {w x : World} {v : Value} {ss : List ByteArray} (hv : StrsAt w v ss) (hb : Below w.heap.size w x) : StrsAt x v ss := by
  obtain ⟨base, cap, rfl, hl, hc⟩ := hv.is
  refine ⟨base, cap, rfl, hl, fun j s hs => ?_⟩
  obtain ⟨a, rfl, ha, hcell⟩ := hc j s hs
  refine ⟨a, rfl, Nat.lt_of_lt_of_le ha hb.size, ?_⟩
  rw [World.cell?_of_block (w := w) (by rw [add_block]; exact hb.block _ ha)]
  exact hcell
def strsL (ss : List ByteArray) : List Value := ss.map Value.string
theorem strsL_snoc (ss : List ByteArray) (s : ByteArray) : strsL (ss ++ [s]) = strsL ss ++ [.string s] := by simp [strsL]
theorem strsL_len (ss : List ByteArray) : (strsL ss).length = ss.length := by simp [strsL]
theorem owns_strs {w : World} {B : Nat} {v : Value} {ss : List ByteArray} (h : w.ownsRow B 9 1 v ss.length (strsL ss)) : StrsAt w v ss := by
  rcases h.2 with ⟨rfl, h0⟩ | ⟨g, cap, cur, rfl, _, hg, hc, _⟩
  · have : ss = [] := List.eq_nil_of_length_eq_zero h0
    subst this
    exact none_strs w
  · refine ⟨some ⟨g, 0, none⟩, cap, rfl, hc, fun j s hj => ⟨_, rfl, (Array.getElem?_eq_some_iff.1 hg).1, ?_⟩⟩
    exact h.cells (g := g) rfl j _ (by simp [strsL, hj])

/-! ### rows of fields -/
structure FdsAt (w : World) (v : Value) (xs : List Fd) : Prop where
  is : ∃ base cap, v = .slice base xs.length cap ∧ xs.length ≤ cap ∧ ∀ j x, xs[j]? = some x → ∃ a : Addr, base = some a ∧ a.block < w.heap.size ∧ ∀ i c, (fdL x)[i]? = some c → w.cell? ((a.add (j * 2)).add i) = some c
theorem none_fds (w : World) : FdsAt w (.slice none 0 0) [] := ⟨none, 0, rfl, Nat.le_refl _, by simp⟩
theorem FdsAt.below {w w' : World} {v : Value} {xs : List Fd} (h : FdsAt w v xs) (hb : Below w.heap.size w w') : FdsAt w' v xs := by
  obtain ⟨base, cap, rfl, hl, hc⟩ := h.is
  refine ⟨base, cap, rfl, hl, fun j x hj => ?_⟩
  obtain ⟨a, rfl, ha, hcell⟩ := hc j x hj
  refine ⟨a, rfl, Nat.lt_of_lt_of_le ha hb.size, fun i c hi => ?_⟩
  rw [World.cell?_of_block (w := w) (by rw [add_block, add_block]; exact hb.block _ ha)]
  exact hcell i c hi
theorem loads_fd {w : World} {a : Addr} {x : Fd} (h : ∀ i c, (fdL x)[i]? = some c → w.cell? (a.add i) = some c) : Loads Tryd.prog w 26 a (fdV x) := by
  unfold Loads loadVar
  have hl := run_loadCells_list (P := Tryd.prog) w a (fdL x) (fun j v hv => h j v hv)
  have hz : (sizeOf 26).run Tryd.prog w = .ok 2 w := size_of (by kernel_rfl) w
  rw [show (fdL x).length = 2 from rfl] at hl
  simp only [Sem.run_bind, run_isAgg (P := Tryd.prog) (t := 26) (by kernel_rfl) w, Result.andThen_ok, if_true, hz]
  rw [hl]
  rfl
theorem FdsAt.loads {w : World} {base : Option Addr} {n cap : Nat} {xs : List Fd} (h : FdsAt w (.slice base n cap) xs) {j : Nat} {x : Fd} (hj : xs[j]? = some x) : ∃ a : Addr, base = some a ∧ a.block < w.heap.size ∧ Loads Tryd.prog w 26 (a.add (j * 2)) (fdV x) ∧ w.cell? (a.add (j * 2)) = some (.string x.n) ∧ w.cell? (a.add (j * 2 + 1)) = some (.string x.v) := by
  obtain ⟨base', cap', e, hl, hc⟩ := h.is
  injection e with e1 e2 e3
  subst e1
  obtain ⟨a, rfl, ha, hcell⟩ := hc j x hj
  have add_add : ∀ p q : Nat, (a.add p).add q = a.add (p + q) := by
    intro p q
    simp only [Addr.add]
    split <;> split <;> simp_all <;> omega
  refine ⟨a, rfl, ha, loads_fd hcell, ?_, ?_⟩
  · have := hcell 0 (.string x.n) rfl
    rwa [add_add] at this
  · have := hcell 1 (.string x.v) rfl
    rwa [add_add] at this
theorem FdsAt.len {w : World} {base : Option Addr} {n cap : Nat} {xs : List Fd} (h : FdsAt w (.slice base n cap) xs) : n = xs.length ∧ n ≤ cap := by
  obtain ⟨base', cap', e, hl, hc⟩ := h.is
  injection e with e1 e2 e3
  subst e2 e3
  exact ⟨rfl, hl⟩
def fdsL (xs : List Fd) : List Value := (xs.map fdL).flatten
theorem fdsL_snoc (xs : List Fd) (x : Fd) : fdsL (xs ++ [x]) = fdsL xs ++ fdL x := by simp [fdsL]
theorem fdsL_at : ∀ (xs : List Fd) (j i : Nat) (x : Fd) (c : Value), xs[j]? = some x → (fdL x)[i]? = some c → (fdsL xs)[j * 2 + i]? = some c
  | [], j, i, x, c, h, _ => by simp at h
  | y :: xs, 0, i, x, c, h, hi => by
    simp at h
    subst h
    have : i < (fdL y).length := (List.getElem?_eq_some_iff.1 hi).1
    simp only [fdsL, List.map_cons, List.flatten_cons, Nat.zero_mul, Nat.zero_add]
    rw [List.getElem?_append_left this]
    exact hi
  | y :: xs, j + 1, i, x, c, h, hi => by
    have ih := fdsL_at xs j i x c (by simpa using h) hi
    have hl : (fdL y).length = 2 := rfl
    simp only [fdsL, List.map_cons, List.flatten_cons]
    rw [List.getElem?_append_right (by rw [hl]; omega), hl, show (j + 1) * 2 + i - 2 = j * 2 + i by omega]
    exact ih
theorem owns_fds {w : World} {B : Nat} {v : Value} {xs : List Fd} (h : w.ownsRow B 26 2 v xs.length (fdsL xs)) : FdsAt w v xs := by
  rcases h.2 with ⟨rfl, h0⟩ | ⟨g, cap, cur, rfl, _, hg, hc, _⟩
  · have : xs = [] := List.eq_nil_of_length_eq_zero h0
    subst this
    exact none_fds w
  · refine ⟨some ⟨g, 0, none⟩, cap, rfl, hc, fun j x hj => ⟨_, rfl, (Array.getElem?_eq_some_iff.1 hg).1, fun i c hi => ?_⟩⟩
    have := h.cells (g := g) rfl (j * 2 + i) c (fdsL_at xs j i x c hj hi)
    rw [add_at] at this ⊢
    rw [add_at]
    simpa using this

/-! ### what a row of one new thing holds -/
theorem infoS : (Tryd.prog.info? 9).map (fun i => (i.zero, i.size, i.bytes)) = some (some (.string ⟨#[]⟩), 1, 16) := by kernel_rfl
theorem infoFd : (Tryd.prog.info? 26).map (fun i => (i.zero, i.size, i.bytes)) = some (some (.agg #[.string ⟨#[]⟩, .string ⟨#[]⟩]), 2, 32) := by kernel_rfl
theorem wpl_build {ops : Array Oper} {rest : List Oper} {o : Oper} {a : Act} {w : World} {Q : Exit → Act → World → Prop} {x : Operand} {cs : Array Value} (hs : cs.size = 2) (hg : o.guard = none) (ho : o.op = .buildSlice 23 1 #[(0, x)]) (hx : a.eval x = .agg cs)
    (h : wpList Tryd.prog ops Q rest (a.put o.dst (.slice (some ⟨w.heap.size, 0, none⟩) 1 1)) (w.alloc (.cells cs 26))) : wpList Tryd.prog ops Q (o :: rest) a w := by
  obtain ⟨i0, hi, hz0, hz1, hz2⟩ := info_parts infoFd
  refine wpList_buildSlice hg 23 26 1 #[(0, x)] ho cs i0 (.agg #[.string ⟨#[]⟩, .string ⟨#[]⟩]) Tryd.underlying23 hi hz0 (by rw [hz1]; decide) (by rw [hz1]; decide) ?_ h
  rw [hz1]
  have e : (#[(0, x)].map fun (i, x) => (i, a.eval x)).toList = (([Value.agg cs].zipIdx 0).map fun x => (x.2, x.1)) := by
    simp [hx]
  rw [e, Great.fill_whole (s := 2) (by decide) [.agg cs] _ (by intro v hv; simp at hv; subst hv; exact hs) (by simp)]
  simp [Value.cells]
theorem new_fd (w : World) (f : Fd) : ∀ j u, (fdL f)[j]? = some u → (w.alloc (.cells (fdV f) 26)).cell? ((⟨w.heap.size, 0, none⟩ : Addr).add j) = some u := by
  intro j u hj
  rw [add_at, Nat.zero_add, (At.new w _ _).cell]
  simpa [fdV, fdL] using hj
end Go.Proofs.YtdldoklkenhopaaDoor.Fi
