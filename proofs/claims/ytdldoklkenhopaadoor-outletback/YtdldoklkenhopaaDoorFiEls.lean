/-
  Contracts of Elements, has and Closes of package field.
-/
import Derived.Test.YtdldoklkenhopaaDoorFiCutP
namespace Go.Proofs.YtdldoklkenhopaaDoor.Fi
open Go.RowKit Go.PlainAid
open Hx
set_option linter.unusedVariables false
set_option maxRecDepth 20000
set_option linter.unusedSimpArgs false

/-- fields that are few and short -/
structure Short (xs : List Fd) : Prop where
  len : xs.length ≤ 1000
  n : ∀ x ∈ xs, x.n.size ≤ 100000
  v : ∀ x ∈ xs, x.v.size ≤ 100000
theorem Short.reach {xs : List Fd} (h : Short xs) : Reach xs := fun x hx => by have := h.n x hx; have := h.v x hx; omega
/-- the elements of the first k values -/
def sumE (vs : List ByteArray) (k : Nat) : List ByteArray := ((vs.take k).map elsF).flatten
theorem elsTo {vs : List ByteArray} {k : Nat} {s : ByteArray} (h : vs[k]? = some s) : sumE vs (k + 1) = sumE vs k ++ elsF s := by
  unfold sumE
  rw [List.take_add_one, h]
  simp
theorem take_snoc' {ss : List ByteArray} {j : Nat} {p : ByteArray} (h : ss[j]? = some p) : ss.take (j + 1) = ss.take j ++ [p] := by
  rw [List.take_add_one, h]; rfl
theorem own_weaken {w : World} {B C e sz n : Nat} {v : Value} {xs : List Value} (h : w.ownsRow B e sz v n xs) (hC : C ≤ B) : w.ownsRow C e sz v n xs := by
  refine ⟨h.1, ?_⟩
  rcases h.2 with hn | ⟨g, cap, cur, hv, hb, r⟩
  · exact .inl hn
  · exact .inr ⟨g, cap, cur, hv, Nat.le_trans hC hb, r⟩
/-- two rows of the call's own in blocks of their own -/
def Apart (u v : Value) : Prop := u.ownBlock = none ∨ u.ownBlock ≠ v.ownBlock
theorem apart_new {w : World} {B e sz n e' sz' n' H : Nat} {u v : Value} {xs ys : List Value} (hu : w.ownsRow B e sz u n xs) (hv : w.ownsRow H e' sz' v n' ys) (hlt : ∀ b, u.ownBlock = some b → b < H) : Apart u v := by
  cases hq : u.ownBlock with
  | none => exact .inl hq
  | some b =>
    refine .inr fun e => ?_
    rw [hq] at e
    have := hlt b hq
    have := (hv.lt b e.symm).1
    omega
def ElRel (w : World) (E : List ByteArray) (v : Value) (wr : World) (m : Nat) : Prop :=
  ∃ (base : Option Addr) (cap : Nat), v = .slice base m cap ∧ Hid (m = E.length) ∧ wr.ownsRow w.heap.size 9 1 (.slice base m cap) m (strsL E) ∧ Below w.heap.size w wr
end Go.Proofs.YtdldoklkenhopaaDoor.Fi
