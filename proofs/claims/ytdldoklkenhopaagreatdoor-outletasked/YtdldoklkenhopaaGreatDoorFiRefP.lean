/-
  Contract of Parse of the document's answers.
-/
import Derived.Test.YtdldoklkenhopaaGreatDoorFiRefT
import Derived.Test.YtdldoklkenhopaaGreatDoorSet2
namespace Go.Proofs.YtdldoklkenhopaaGreatDoor.Fi
open Go.RowKit Go.PlainAid
open Hx
set_option linter.unusedVariables false
set_option maxRecDepth 20000
set_option linter.unusedSimpArgs false

theorem wpo_store {P : Program} {oi : Oper} {a : Act} {w w' : World} {K : Act → World → Prop} {Q : Exit → Act → World → Prop} {ty : TypeId} {x y : Operand} {B off : Nat} {cs : Array Value} (hl : Stores P w ty B off cs w') (hop : oi.op = .store ty x y) (hd : oi.dst = none) (hx : a.eval x = .pointer (some ⟨B, off, none⟩)) (hy : a.eval y = .agg cs) (h : K a w') : oi.wp P a w K Q := by
  unfold Oper.wp execOp
  simp only [hop, hx, hy, Instr.storeAt, Instr.sureAddr, Sem.run_bind, Sem.run_pure, Result.andThen_ok, show (storeVar ty ⟨B, off, none⟩ (.agg cs)).run P w = .ok () w' from hl]
  have e : (a.put oi.dst undef) = a := by rw [hd]; rfl
  show K (a.put oi.dst undef) w'
  rw [e]; exact h
theorem cut_ex {s : ByteArray} {x y : List UInt8} (h : cutB 58 (ls s) = some (x, y)) : ls (s.extract 0 x.length) = x ∧ ls (s.extract (x.length + 1) s.size) = y ∧ x.length < s.size := by
  have e := (cutB_some h).1
  have l := congrArg List.length e
  rw [ls_len] at l
  simp at l
  refine ⟨?_, ?_, by omega⟩
  · rw [ls_extract, List.drop_zero, Nat.sub_zero, e]; simp
  · rw [ls_extract, e, show x ++ 58 :: y = (x ++ [58]) ++ y by simp, List.drop_left' (by simp)]
    exact List.take_of_length_le (by omega)
end Go.Proofs.YtdldoklkenhopaaGreatDoor.Fi
