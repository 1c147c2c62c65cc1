/-
  Whole structs and arrays, out of memory and into it.
-/
import Derived.Test.YtdmgobffhpgjlaaGreatPkLeaf
import Derived.OrdersHeld

namespace Go.Proofs.YtdmgobffhpgjlaaGreat.Pk
open Go.RowKit Go.PlainAid Go.Maps
set_option linter.unusedVariables false
set_option maxRecDepth 20000
set_option linter.unusedSimpArgs false

theorem add_addr (B o j : Nat) : (⟨B, o, none⟩ : Addr).add j = ⟨B, o + j, none⟩ := by unfold Addr.add; split <;> simp_all
theorem size_of {P : Program} {t : TypeId} {n : Nat} (h : (P.info? t).map (·.size) = some n) (w : World) : (sizeOf t).run P w = .ok n w := by
  cases hq : P.info? t with
  | none => simp [hq] at h
  | some i => simp [hq] at h; simp [sizeOf, typeInfo, hq, h]

/-- part of a block, read whole -/
theorem load_part {P : Program} {w : World} {B : Nat} {cs : Array Value} {T : Nat} {fr : Nat × Nat} (hg : w.heap[B]? = some (.cells cs T fr)) (o n : Nat) (ho : o + n ≤ cs.size) :
    (loadCellsFrom ⟨B, o, none⟩ 0 n #[]).run P w = .ok (cs.extract o (o + n)) w := by
  have := run_loadCells_list (P := P) w ⟨B, o, none⟩ (cs.extract o (o + n)).toList (fun j v hv => by
    rw [add_addr, cell_of_row _ _ _ _ _ _ hg]
    have hj : j < n := by
      have := List.getElem?_eq_some_iff.1 hv
      obtain ⟨h, _⟩ := this
      simp at h; omega
    simpa [Array.getElem?_extract, hj, show o + j < o + n by omega] using hv)
  have hs : (cs.extract o (o + n)).toList.length = n := by simp; omega
  rw [hs, Array.toArray_toList] at this
  exact this

/-! ### whole arrays and structs, out of memory and into it -/
def aggOf (P : Program) (t : TypeId) : Bool := match P.underlying t with | some (.struct _) => true | some (.array _ _) => true | _ => false
theorem run_isAgg {P : Program} {t : TypeId} (h : aggOf P t = true) (w : World) : (isAgg t).run P w = .ok true w := by
  unfold aggOf at h
  split at h <;> first | (rename_i hu; unfold isAgg; rw [Sem.run_bind, run_underlying hu w]; simp) | cases h
def Loads (P : Program) (w : World) (ty : TypeId) (B off : Nat) (cs : Array Value) : Prop := (loadVar ty ⟨B, off, none⟩).run P w = .ok (.agg cs) w
def Stores (P : Program) (w : World) (ty : TypeId) (B off : Nat) (cs : Array Value) (w' : World) : Prop := (storeVar ty ⟨B, off, none⟩ (.agg cs)).run P w = .ok () w'
section
variable {P : Program} {ops : Array Oper} {rest : List Oper} {o : Oper} {a : Act} {w w' : World} {Q : Exit → Act → World → Prop} {ty : TypeId} {x y : Operand} {B off : Nat} {cs : Array Value}
theorem wpl_load (hl : Loads P w ty B off cs) (hgd : o.guard = none) (hop : o.op = .load ty x) (hx : a.eval x = .pointer (some ⟨B, off, none⟩)) (h : wpList P ops Q rest (a.put o.dst (.agg cs)) w) : wpList P ops Q (o :: rest) a w :=
  wpList_plain hgd fun _ hK => by
    unfold Oper.wp execOp
    simp only [hop, hx, Instr.loadAt, Instr.sureAddr, Sem.run_bind, Sem.run_pure, Result.andThen_ok, show (loadVar ty ⟨B, off, none⟩).run P w = .ok (.agg cs) w from hl]
    exact hK _ _ h
theorem wpl_store (hl : Stores P w ty B off cs w') (hgd : o.guard = none) (hop : o.op = .store ty x y) (hd : o.dst = none) (hx : a.eval x = .pointer (some ⟨B, off, none⟩)) (hy : a.eval y = .agg cs) (h : wpList P ops Q rest a w') : wpList P ops Q (o :: rest) a w :=
  wpList_plain hgd fun _ hK => by
    unfold Oper.wp execOp
    simp only [hop, hx, hy, Instr.storeAt, Instr.sureAddr, Sem.run_bind, Sem.run_pure, Result.andThen_ok, show (storeVar ty ⟨B, off, none⟩ (.agg cs)).run P w = .ok () w' from hl]
    refine hK _ _ ?_
    rw [hd]
    exact h
theorem loads_part {cur : Array Value} {T n : Nat} {fr : Nat × Nat} (hg : w.heap[B]? = some (.cells cur T fr)) (ha : aggOf P ty = true) (hi : (P.info? ty).map (·.size) = some n) (ho : off + n ≤ cur.size) : Loads P w ty B off (cur.extract off (off + n)) := by
  unfold Loads loadVar
  have hl := load_part (P := P) hg off n ho
  have hz := size_of hi w
  simp only [Sem.run_bind, run_isAgg ha w, Result.andThen_ok, if_true, hz, loadCells, hl]
  rfl
theorem stores_part {cur : Array Value} {T : Nat} (hg : w.heap[B]? = some (.cells cur T (0, 0))) (hi : (P.info? ty).map (·.size) = some cs.size) (ho : off + cs.size ≤ cur.size) (h1 : ∀ v ∈ cs.toList, v.oneCell' = true) :
    Stores P w ty B off cs (w.setRow B (cur.toList.take off ++ cs.toList ++ cur.toList.drop (off + cs.size)).toArray) := by
  unfold Stores storeVar
  have hz := size_of hi w
  have hs := run_storeCells_at (P := P) B off T cs.toList 0 cur w hg (by simpa using ho) h1
  simp only [Nat.add_zero, Array.length_toList] at hs
  simp only [Sem.run_bind, hz, Result.andThen_ok, Value.cells, ne_eq, not_true_eq_false, if_false, hs]
theorem heap_setRow_other {C : Nat} (hc : C ≠ B) : (w.setRow B cs).heap[C]? = w.heap[C]? := by
  simp only [World.setRow, Array.getElem?_modify]
  rw [if_neg (by omega)]
end
section
variable {P : Program} {md : Region.Mode} {ops : Array Oper} {Q : Exit → Act → World → Prop} {S : World → Prop} {i fuel : Nat} {listed : Array Bool} {a : Act} {w : World} {oi : Oper}
theorem held_take (i : Nat) (v : Value) (hi : ops[i]? = some oi) (hs : Region.noSelect ops = true) (hf : Region.free md ops listed i = true) (hr : (Region.ready md ops listed).contains i = true)
    (hQ : ∀ c a w, Q (.panic c) (a.put oi.dst v) w → Q (.panic c) a w) (hy : YieldsIf P ops S oi v a) (hS : S w)
    (h : ∀ K : Act → World → Prop, (∀ a w, wpAnyH P md ops Q S fuel (listed.setIfInBounds i true) a w → K a w) → K (a.put oi.dst v) w) : wpAnyH P md ops Q S (fuel + 1) listed a w :=
  wpAnyH_take hi hs hf hr hQ hy hS (h _ fun _ _ h => h)
theorem held_one (i : Nat) (hr : Region.ready md ops listed = [i])
    (h1 : ∀ K : Act → World → Prop, (∀ a w, S w → wpAnyH P md ops Q S fuel (listed.setIfInBounds i true) a w → K a w) → wpOp P ops Q i K a w) : wpAnyH P md ops Q S (fuel + 1) listed a w :=
  wpAnyH_all hr (by simp) (by intro k hk; simp at hk; subst hk; exact h1 _ fun _ _ hs h => ⟨hs, h⟩)
theorem wpOp_in {K : Act → World → Prop} (hi : ops[i]? = some oi) (hw : Region.wanted oi (yielded ops a.tmps) = true) (h : oi.wp P a w K Q) : wpOp P ops Q i K a w := by
  unfold wpOp
  simp only [hi]
  rw [if_pos hw]
  exact Or.inl h
end
end Go.Proofs.YtdmgobffhpgjlaaGreat.Pk
