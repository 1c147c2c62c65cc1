/-
  Contract of Get of the document's answers.
-/
import Derived.Test.YtdldoklkenhopaaGreatDoorFiRefA
namespace Go.Proofs.YtdldoklkenhopaaGreatDoor.Fi
open Go.RowKit Go.PlainAid
open Hx
set_option linter.unusedVariables false
set_option maxRecDepth 20000
set_option linter.unusedSimpArgs false

theorem low_beq (a b : ByteArray) : ((tx (low (ls a))).toList == (tx (low (ls b))).toList) = sameL (ls a) (ls b) := by
  unfold sameL
  rw [ls_toList, ls_toList, ls_tx, ls_tx]
theorem vals_head (l : List ByteArray) (s : ByteArray) : (((l ++ [s])[0]?).getD ⟨#[]⟩) = if l.length = 0 then s else ((l[0]?).getD ⟨#[]⟩) := by
  cases l with
  | nil => rfl
  | cons a l => rfl
theorem add_next (a : Addr) (k : Nat) : ({ (a.add (k * 2)) with off := (a.add (k * 2)).off + 1, spot := none } : Addr) = a.add (k * 2 + 1) := by
  simp only [Addr.add]; split <;> simp_all <;> omega
end Go.Proofs.YtdldoklkenhopaaGreatDoor.Fi
