/-
  What the laws share: the box of the two texts, fields that are short so far.
-/
import Derived.Test.YtdldoklkenhopaaDoorOuAwake
namespace Go.Proofs.YtdldoklkenhopaaDoor.Ou
open Go.RowKit Go.PlainAid
open Hx Fi Ch In
set_option linter.unusedVariables false
set_option maxRecDepth 20000
set_option linter.unusedSimpArgs false

theorem nxt (a : Addr) (k : Nat) : ({ (a.add (k * 2)) with off := (a.add (k * 2)).off + 1, spot := none } : Addr) = a.add (k * 2 + 1) := by
  simp only [Addr.add]; split <;> simp_all <;> omega
structure OuJ (w0 z : World) (B : Nat) (p q : ByteArray) : Prop where
  a : At z B 22 #[.string p, .string q]
  bel : Below w0.heap.size w0 z
theorem OuJ.below {w0 z y : World} {B : Nat} {p q : ByteArray} (i : OuJ w0 z B p q) (hb : Below z.heap.size z y) : OuJ w0 y B p q := ⟨i.a.old hb, i.bel.trans (hb.mono i.bel.size)⟩
theorem OuJ.drew {w0 z : World} {B : Nat} {p q : ByteArray} (i : OuJ w0 z B p q) : OuJ w0 z.drew B p q := i.below ((Below.refl _ _).drew)
theorem OuJ.c0 {w0 z : World} {B : Nat} {p q : ByteArray} (i : OuJ w0 z B p q) : z.cell? ⟨B, 0, none⟩ = some (.string p) := i.a.cell 0
theorem OuJ.c1 {w0 z : World} {B : Nat} {p q : ByteArray} (i : OuJ w0 z B p q) : z.cell? ⟨B, 1, none⟩ = some (.string q) := i.a.cell 1
theorem OuJ.new (w : World) (p q : ByteArray) : OuJ w (w.alloc (.cells #[.string p, .string q] 22)) w.heap.size p q := ⟨At.new w _ _, (Below.refl _ _).alloc (Nat.le_refl _) _⟩
def ShTo (xs : List Fi.Fd) (k : Nat) : Prop := ∀ x ∈ xs.take k, x.n.size ≤ 8192 ∧ x.v.size ≤ 8192
theorem ShTo.succ {xs : List Fi.Fd} {k : Nat} {x : Fi.Fd} (h : ShTo xs k) (hx : xs[k]? = some x) (h1 : x.n.size ≤ 8192) (h2 : x.v.size ≤ 8192) : ShTo xs (k + 1) := by
  intro y hy
  rw [List.take_add_one, hx] at hy
  rcases List.mem_append.1 hy with hy | hy
  · exact h y hy
  · simp at hy; subst hy; exact ⟨h1, h2⟩
theorem ShTo.all {xs : List Fi.Fd} {k : Nat} (h : ShTo xs k) (hk : xs.length ≤ k) : ∀ x ∈ xs, x.n.size ≤ 8192 ∧ x.v.size ≤ 8192 :=
  fun x hx => h x (by rw [List.take_of_length_le hk]; exact hx)
end Go.Proofs.YtdldoklkenhopaaDoor.Ou
