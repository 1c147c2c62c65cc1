/-
  Rows of bytes that came of a text and are written to; a burst laid over bytes: in plain terms.
-/
import Derived.Test.YtdmgobffhpgjlaaGreatCrAwake
import Derived.Deep.DeepCutAuto

namespace Go.Proofs.YtdmgobffhpgjlaaGreat.Cr
open Go.RowKit Go.PlainAid
set_option linter.unusedVariables false
set_option maxRecDepth 20000

/-- block B holds the bytes l, which may be written -/
structure RowB (w : World) (B : Nat) (l : List Nat) : Prop where
  cell : ∀ (j x : Nat), l[j]? = some x → w.cell? ⟨B, j, none⟩ = some (.int .u8 (x : Int)) ∧ w.frozen? ⟨B, j, none⟩ = false
theorem RowB.old {w w' : World} {B : Nat} {l : List Nat} (h : RowB w B l) (hw : w'.heap[B]? = w.heap[B]?) : RowB w' B l :=
  ⟨fun j x hx => by rw [World.cell?_of_block (w := w) hw, World.frozen?_of_block (w := w) hw]; exact h.cell j x hx⟩
theorem RowB.below {w w' : World} {B N : Nat} {l : List Nat} (h : RowB w B l) (hb : Below N w w') (hB : B < N) : RowB w' B l := h.old (hb.block B hB)
theorem RowB.alloc {w : World} {B : Nat} {l : List Nat} (h : RowB w B l) (hB : B < w.heap.size) (o : Obj) : RowB (w.alloc o) B l := h.old (Below.heap_alloc _ _ _ hB)
theorem cell_ne {w : World} {B j i : Nat} {u v : Value} (h : j ≠ i) (hc : w.cell? ⟨B, j, none⟩ = some u) : (w.setCell ⟨B, i, none⟩ v).cell? ⟨B, j, none⟩ = some u := by
  rw [World.cell?_setCell_other _ _ _ _ (by intro e; injection e; omega)]; exact hc
theorem RowB.set {w : World} {B : Nat} {l : List Nat} (h : RowB w B l) (i v : Nat) (hi : i < l.length) : RowB (w.setCell ⟨B, i, none⟩ (.int .u8 (v : Int))) B (l.set i v) := by
  refine ⟨fun j x hx => ?_⟩
  rw [World.frozen?_setCell]
  by_cases e : j = i
  · subst e
    rw [List.getElem?_set_self hi] at hx
    obtain rfl : v = x := by simpa using hx
    have c := h.cell j l[j] (List.getElem?_eq_getElem hi)
    exact ⟨World.cell?_setCell_same _ _ _ c.1, c.2⟩
  · rw [List.getElem?_set_ne (by omega)] at hx
    exact ⟨cell_ne e (h.cell j x hx).1, (h.cell j x hx).2⟩
theorem RowB.conv {w : World} {B cap : Nat} {l : List Nat} (h : RowB w B l) (hl : ∀ x ∈ l, x < 256) {n : Nat} (hn : l.length = n) : (convert 87 9 (.slice (some ⟨B, 0, none⟩) n cap)).run Tryz.prog w = .ok (.string (strOf l)) w := by
  subst hn
  have := run_convert_bytes_back (P := Tryz.prog) w 87 9 5 ⟨B, 0, none⟩ cap (l.map UInt8.ofNat) Tryz.underlying87 Tryz.underlying5 Tryz.underlying9 (fun j hj => by
    rw [add_addr]
    have hj' : j < l.length := by simpa using hj
    rw [(h.cell j l[j] (List.getElem?_eq_getElem hj')).1]
    have := hl l[j] (List.getElem_mem hj')
    simp [Nat.mod_eq_of_lt this])
  rw [List.length_map] at this
  exact this
/-! a burst -/
end Go.Proofs.YtdmgobffhpgjlaaGreat.Cr
