/-
  A row of acts among a law's arguments.
-/
import Derived.Test.YtdmgobffhpgjlaaGreatPkDone
import Derived.SliceStrings
import Derived.Deep.Slices
import Derived.Deep.WholeRow

namespace Go.Proofs.YtdmgobffhpgjlaaGreat.Pk
open Go.RowKit Go.PlainAid Go.Maps
set_option linter.unusedVariables false
set_option maxRecDepth 20000
set_option linter.unusedSimpArgs false

/-- v reads as the row of acts xs in w -/
structure ActsAt (w : World) (v : Value) (xs : List Ac) : Prop where
  is : ∃ base cap, v = .slice base xs.length cap ∧ ∀ j x, xs[j]? = some x → ∃ a : Addr, base = some a ∧ a.block < w.heap.size ∧ ∀ i c, x.cells[i]? = some c → w.cell? ((a.add (j * 8)).add i) = some c
  ok : ∀ x ∈ xs, x.Ok
  keeps : ∀ x ∈ xs, x.ks.length ≤ x.kc ∧ ∀ j y, x.ks[j]? = some y → ∃ a : Addr, x.kb = some a ∧ a.block < w.heap.size ∧ w.cell? (a.add j) = some (.int .i64 y) ∧ y ≤ 9223372036854775807
theorem none_acts (w : World) : ActsAt w (.slice none 0 0) [] := ⟨⟨none, 0, rfl, by simp⟩, by simp, by simp⟩
section
variable {H : Type} {enc : TypeId × Value → H} {P : Program} {w : World} {base : Nat} {spare : Nat → Bool} {held : Bool} {fuel : Nat} {t : TypeId} {cs : List Value} {x : DataW H × List MemPlace}
theorem i64_le {n : Int} (h : (Lit.int .i64 n).wf = true) : n ≤ 9223372036854775807 := by
  have e : (IntKind.i64.max : Int) = 9223372036854775807 := by decide
  simp only [Lit.wf, Bool.and_eq_true, decide_eq_true_eq] at h
  have := h.2
  first | omega | (rw [e] at this; exact this)
end
/-- a struct behind whatever address, read whole -/
def LoadsA (P : Program) (w : World) (ty : TypeId) (a : Addr) (cs : Array Value) : Prop := (loadVar ty a).run P w = .ok (.agg cs) w
section
variable {P : Program} {ops : Array Oper} {rest : List Oper} {o : Oper} {a : Act} {w w' : World} {Q : Exit → Act → World → Prop} {ty : TypeId} {x : Operand} {ad : Addr} {cs : Array Value}
theorem wpl_loadA (hl : LoadsA P w ty ad cs) (hgd : o.guard = none) (hop : o.op = .load ty x) (hx : a.eval x = .pointer (some ad)) (h : wpList P ops Q rest (a.put o.dst (.agg cs)) w) : wpList P ops Q (o :: rest) a w :=
  wpList_plain hgd fun _ hK => by
    unfold Oper.wp execOp
    simp only [hop, hx, Instr.loadAt, Instr.sureAddr, Sem.run_bind, Sem.run_pure, Result.andThen_ok, show (loadVar ty ad).run P w = .ok (.agg cs) w from hl]
    exact hK _ _ h
end
theorem below_row {N B : Nat} {w0 w : World} {cs : Array Value} (h : Below N w0 w) (hB : N ≤ B) : Below N w0 (w.setRow B cs) :=
  h.trans ⟨rfl, rfl, rfl, by simp, fun k hk => heap_setRow_other (by omega)⟩
end Go.Proofs.YtdmgobffhpgjlaaGreat.Pk
