/-
  A digest that goes on, in memory: its state, its block, its size; what is read of it, what is written into it, what stays.
-/
import Derived.Test.YtmnkhcefdpcheaaDoorShDig
import Derived.PlainAid
namespace Go.Proofs.YtmnkhcefdpcheaaDoor.Sh
open Go.RowKit
set_option linter.unusedVariables false
set_option linter.unusedSimpArgs false

def shaV (st blk : List Nat) (n : Nat) : List Value := vals .u32 st ++ (vals .u8 blk ++ [.int .u64 (n : Int)])
structure ShaAt (w : World) (B : Nat) (st blk : List Nat) (n : Nat) : Prop where
  heap : w.heap[B]? = some (.cells (shaV st blk n).toArray 61 (0, 0))
  ls : st.length = 8
  lb : blk.length = 64
theorem shaV_len {st blk : List Nat} {n : Nat} (h1 : st.length = 8) (h2 : blk.length = 64) : (shaV st blk n).length = 73 := by simp [shaV, vals_len, h1, h2]
theorem shaV_one (st blk : List Nat) (n : Nat) : ∀ u ∈ shaV st blk n, u.oneCell' = true := by
  intro u hu
  simp only [shaV, List.mem_append, List.mem_singleton] at hu
  rcases hu with h | h | h
  · exact vals_one _ _ u h
  · exact vals_one _ _ u h
  · subst h; rfl
section
variable {P : Program} {w w' : World} {B : Nat} {st blk : List Nat} {n : Nat}
theorem ShaAt.frozen (h : ShaAt w B st blk n) (j : Nat) : w.frozen? ⟨B, j, none⟩ = false := frozen_of_row _ _ _ _ _ h.heap
theorem ShaAt.size (h : ShaAt w B st blk n) : w.cell? ⟨B, 72, none⟩ = some (.int .u64 (n : Int)) := by
  rw [cell_of_row _ _ _ _ _ _ h.heap]
  simp [shaV, List.getElem?_append, vals_len, h.ls, h.lb]
theorem ShaAt.byte (h : ShaAt w B st blk n) {j : Nat} (hj : j < 64) : w.cell? ⟨B, 8 + j, none⟩ = some (.int .u8 (at0 blk j : Nat)) := by
  rw [cell_of_row _ _ _ _ _ _ h.heap]
  have := vals_get (k := .u8) (show j < blk.length by rw [h.lb]; exact hj)
  simp [shaV, List.getElem?_append, vals_len, h.ls, h.lb, hj]
  exact (List.getElem?_eq_some_iff.1 this).2
theorem ShaAt.lt (h : ShaAt w B st blk n) : B < w.heap.size := (Array.getElem?_eq_some_iff.1 h.heap).1
theorem ShaAt.drew (h : ShaAt w B st blk n) : ShaAt w.drew B st blk n := ⟨h.heap, h.ls, h.lb⟩
theorem ShaAt.same (h : ShaAt w B st blk n) (e : w'.heap[B]? = w.heap[B]?) : ShaAt w' B st blk n := ⟨by rw [e]; exact h.heap, h.ls, h.lb⟩
theorem ShaAt.other (h : ShaAt w B st blk n) {a : Addr} (ha : B ≠ a.block) (v : Value) : ShaAt (w.setCell a v) B st blk n := h.same (Below.heap_setCell _ _ _ _ ha)
theorem ShaAt.below {N : Nat} (h : ShaAt w B st blk n) (hb : Below N w w') (hN : B < N) : ShaAt w' B st blk n := h.same (hb.block B hN)
theorem ShaAt.alloc (h : ShaAt w B st blk n) (o : Obj) : ShaAt (w.alloc o) B st blk n := h.same (Below.heap_alloc _ _ _ h.lt)
theorem ShaAt.rowOther {C : Nat} {cs : Array Value} (h : ShaAt w B st blk n) (hc : B ≠ C) : ShaAt (w.setRow C cs) B st blk n := h.same (heap_setRow_other hc)
theorem ShaAt.new (w : World) {st blk : List Nat} (n : Nat) (h1 : st.length = 8) (h2 : blk.length = 64) : ShaAt (w.alloc (.cells (shaV st blk n).toArray 61)) w.heap.size st blk n := ⟨heap_alloc_new w _, h1, h2⟩
theorem ShaAt.setByte (h : ShaAt w B st blk n) {j : Nat} (hj : j < 64) (v : Nat) : ShaAt (w.setCell ⟨B, 8 + j, none⟩ (.int .u8 (v : Int))) B st (blk.set j v) n := by
  refine ⟨?_, h.ls, by rw [List.length_set]; exact h.lb⟩
  rw [heap_set _ _ _ _ _ _ _ h.heap]
  simp only [List.setIfInBounds_toArray, shaV, ← vals_set]
  rw [List.set_append_right _ _ (by simp [vals_len, h.ls]), List.set_append_left _ _ (by simp [vals_len, h.ls, h.lb]; omega)]
  simp [vals_len, h.ls]
theorem ShaAt.setSize (h : ShaAt w B st blk n) (m : Nat) : ShaAt (w.setCell ⟨B, 72, none⟩ (.int .u64 (m : Int))) B st blk m := by
  refine ⟨?_, h.ls, h.lb⟩
  rw [heap_set _ _ _ _ _ _ _ h.heap]
  simp only [List.setIfInBounds_toArray, shaV]
  rw [List.set_append_right _ _ (by simp [vals_len, h.ls]), List.set_append_right _ _ (by simp [vals_len, h.ls, h.lb])]
  simp [vals_len, h.ls, h.lb]
theorem ShaAt.row (h : ShaAt w B st blk n) {st' blk' : List Nat} (m : Nat) (h1 : st'.length = 8) (h2 : blk'.length = 64) : ShaAt (w.setRow B (shaV st' blk' m).toArray) B st' blk' m := ⟨setRow_heap w B _ _ _ _ h.heap, h1, h2⟩
theorem ShaAt.loadState (h : ShaAt w B st blk n) {ty : TypeId} (ha : aggOf P ty = true) (hi : (P.info? ty).map (·.size) = some 8) : Loads P w ty B 0 (vals .u32 st).toArray := by
  have := loads_part (off := 0) h.heap ha hi (by simp [shaV_len h.ls h.lb])
  simpa [shaV, List.take_append, vals_len, h.ls, List.take_of_length_le (Nat.le_of_eq (show (vals .u32 st).length = 8 by rw [vals_len, h.ls]))] using this
theorem ShaAt.loadBlock (h : ShaAt w B st blk n) {ty : TypeId} (ha : aggOf P ty = true) (hi : (P.info? ty).map (·.size) = some 64) : Loads P w ty B 8 (vals .u8 blk).toArray := by
  have := loads_part (off := 8) h.heap ha hi (by simp [shaV_len h.ls h.lb])
  simpa [shaV, List.take_append, List.drop_append, vals_len, h.ls, h.lb, List.drop_of_length_le (Nat.le_of_eq (show (vals .u32 st).length = 8 by rw [vals_len, h.ls])), List.take_of_length_le (Nat.le_of_eq (show (vals .u8 blk).length = 64 by rw [vals_len, h.lb]))] using this
theorem ShaAt.loadAll (h : ShaAt w B st blk n) {ty : TypeId} (ha : aggOf P ty = true) (hi : (P.info? ty).map (·.size) = some 73) : Loads P w ty B 0 (shaV st blk n).toArray := by
  have := loads_part (off := 0) h.heap ha hi (by simp [shaV_len h.ls h.lb])
  simpa [List.take_of_length_le (Nat.le_of_eq (shaV_len (n := n) h.ls h.lb))] using this
theorem ShaAt.storeState (h : ShaAt w B st blk n) {ty : TypeId} {st' : List Nat} (hl : st'.length = 8) (hi : (P.info? ty).map (·.size) = some 8) : Stores P w ty B 0 (vals .u32 st').toArray (w.setRow B (shaV st' blk n).toArray) := by
  have := stores_part (P := P) (ty := ty) (off := 0) (cs := (vals .u32 st').toArray) h.heap (by simpa [vals_len, hl] using hi) (by simp [shaV_len h.ls h.lb, vals_len, hl]) (by simpa using vals_one .u32 st')
  simpa [shaV, List.drop_append, vals_len, hl, h.ls, List.drop_of_length_le (Nat.le_of_eq (show (vals .u32 st).length = 8 by rw [vals_len, h.ls]))] using this
theorem ShaAt.storeBlock (h : ShaAt w B st blk n) {ty : TypeId} {blk' : List Nat} (hl : blk'.length = 64) (hi : (P.info? ty).map (·.size) = some 64) : Stores P w ty B 8 (vals .u8 blk').toArray (w.setRow B (shaV st blk' n).toArray) := by
  have := stores_part (P := P) (ty := ty) (off := 8) (cs := (vals .u8 blk').toArray) h.heap (by simpa [vals_len, hl] using hi) (by simp [shaV_len h.ls h.lb, vals_len, hl]) (by simpa using vals_one .u8 blk')
  simpa [shaV, List.drop_append, List.take_append, vals_len, hl, h.ls, h.lb, List.drop_of_length_le (show (vals .u32 st).length ≤ 72 by rw [vals_len, h.ls]; decide), List.drop_of_length_le (Nat.le_of_eq (show (vals .u8 blk).length = 64 by rw [vals_len, h.lb])), List.take_of_length_le (Nat.le_of_eq (show (vals .u32 st).length = 8 by rw [vals_len, h.ls]))] using this
theorem ShaAt.storeAll (h : ShaAt w B st blk n) {ty : TypeId} {st' blk' : List Nat} {m : Nat} (h1 : st'.length = 8) (h2 : blk'.length = 64) (hi : (P.info? ty).map (·.size) = some 73) : Stores P w ty B 0 (shaV st' blk' m).toArray (w.setRow B (shaV st' blk' m).toArray) := by
  have := stores_part (P := P) (ty := ty) (off := 0) (cs := (shaV st' blk' m).toArray) h.heap (by simpa [shaV_len h1 h2] using hi) (by simp [shaV_len h.ls h.lb, shaV_len h1 h2]) (by simpa using shaV_one st' blk' m)
  simpa [shaV_len h1 h2, List.drop_of_length_le (Nat.le_of_eq (shaV_len (n := n) h.ls h.lb))] using this
theorem slice_lt {T e : TypeId} (ht : P.underlying T = some (.array 64 e)) (hz : (P.info? e).map (·.size) = some 1) (B o k : Nat) (hk : k < 64) (w : World) :
    (Instr.sliceAt T (.pointer (some ⟨B, o, none⟩)) (some (.int .u64 (k : Int))) none none).run P w = .ok (.slice (some ⟨B, o + k, none⟩) (64 - k) (64 - k)) w := by
  have hs := size_of hz w
  have hne : ¬ 64 = k := by omega
  have h1 : (k : Int) ≤ 64 := by omega
  have h0 : (0 : Int) ≤ (k : Int) := by omega
  simp [Instr.sliceAt, Instr.sureAddr, run_underlying ht, Instr.sliceBounds, run_sliceBound, hs, hne, h0, h1, add_addr]
theorem slice_end {T e : TypeId} (ht : P.underlying T = some (.array 64 e)) (hz : (P.info? e).map (·.size) = some 1) (B o : Nat) (w : World) :
    (Instr.sliceAt T (.pointer (some ⟨B, o, none⟩)) (some (.int .u64 64)) none none).run P w = .ok (.slice (some ⟨B, o, none⟩) 0 0) w := by
  have hs := size_of hz w
  simp [Instr.sliceAt, Instr.sureAddr, run_underlying ht, Instr.sliceBounds, run_sliceBound, hs]
theorem vals_take (k : IntKind) (l : List Nat) (i : Nat) : vals k (l.take i) = (vals k l).take i := by simp [vals, List.map_take]
theorem vals_drop (k : IntKind) (l : List Nat) (i : Nat) : vals k (l.drop i) = (vals k l).drop i := by simp [vals, List.map_drop]
/-- a part of the block, written over -/
theorem ShaAt.storePart (h : ShaAt w B st blk n) (k : Nat) (l : List Nat) (hk : k + l.length ≤ 64) :
    (storeCells ⟨B, 8 + k, none⟩ (vals .u8 l) 0).run P w = .ok () (w.setRow B (shaV st (blk.take k ++ l ++ blk.drop (k + l.length)) n).toArray) := by
  have hs := run_storeCells_at (P := P) B (8 + k) 61 (vals .u8 l) 0 (shaV st blk n).toArray w h.heap (by simp [shaV_len h.ls h.lb, vals_len]; omega) (vals_one _ _)
  rw [hs]
  congr 3
  have e1 : (vals .u32 st).length = 8 := by rw [vals_len, h.ls]
  have e2 : (vals .u8 blk).length = 64 := by rw [vals_len, h.lb]
  simp only [shaV, Nat.add_zero, vals_append, vals_take, vals_drop, vals_len]
  rw [List.take_append, List.take_of_length_le (by omega), e1, List.take_append_of_le_length (by omega), List.drop_append, List.drop_of_length_le (by omega), e1, List.nil_append, List.drop_append_of_le_length (by omega)]
  simp [Nat.add_sub_cancel_left, Nat.add_assoc]
theorem ShaAt.clear (h : ShaAt w B st blk n) {T e ty : TypeId} (hT : P.underlying T = some (.slice e)) (hz : ∀ w, (zeroValue e).run P w = .ok (.int .u8 0) w) (k : Nat) (hk : k < 64) :
    (Builtin.clear_ #[T] ty #[.slice (some ⟨B, 8 + k, none⟩) (64 - k) (64 - k)]).run P w = .ok (.tuple #[]) (w.setRow B (shaV st (blk.take k ++ List.replicate (64 - k) 0) n).toArray) := by
  have hst := h.storePart (P := P) k (List.replicate (64 - k) 0) (by simp; omega)
  rw [List.length_replicate, show k + (64 - k) = 64 by omega, List.drop_of_length_le (by rw [h.lb]; decide), List.append_nil] at hst
  have hzc : (Builtin.zeroCells (Value.int .u8 0).cells (64 - k)).toList = vals .u8 (List.replicate (64 - k) 0) := by
    simp [Builtin.zeroCells, vals, Value.cells]
    apply List.ext_getElem
    · simp
    · intro i h1 h2
      simp [Nat.mod_one]
  obtain ⟨m, hm⟩ : ∃ m, 64 - k = m + 1 := ⟨63 - k, by omega⟩
  rw [hm] at hst hzc ⊢
  simp [Builtin.clear_, run_underlying hT, hz, hzc, hst]
end
end Go.Proofs.YtmnkhcefdpcheaaDoor.Sh
