/-
  ShaNone walked: of every two texts the law answers true, where the tables lie as the program's text lays them.
-/
import Derived.Test.YtmnkhcefdpcheaaDoorShAwake
import Derived.Stop.BytesEq
namespace Go.Proofs.YtmnkhcefdpcheaaDoor.Sh
open Go.RowKit Go.PlainAid
open Go.Extern.Stop (cell)
set_option linter.unusedVariables false

theorem bl_empty : bl ⟨#[]⟩ = [] := rfl

theorem shaD_lt (l : List Nat) : ∀ x ∈ shaD l, x < 256 := by
  intro x hx
  obtain ⟨i, hi, rfl⟩ := List.getElem_of_mem hx
  have h : Lt 256 (shaD l) := by unfold shaD; exact dig_lt _ _
  have := h i
  rw [at0_lt hi] at this
  exact this
theorem cells_of {d : List Nat} (h : ∀ x ∈ d, x < 256) : vals .u8 d = (d.map UInt8.ofNat).map cell := by
  unfold vals
  rw [List.map_map]
  apply List.map_congr_left
  intro x hx
  have := h x hx
  simp [cell, Nat.mod_eq_of_lt this]
theorem eq_dig (l : List Nat) (w : World) : (Op.equalIn 10000 23 (.agg (vals .u8 (shaD l)).toArray) (.agg (vals .u8 (shaD l)).toArray)).run Tryd.prog w = .ok true w := by
  rw [cells_of (shaD_lt l)]
  have := run_equalIn_bytes (P := Tryd.prog) w 9998 23 5 32 Tryd.underlying23 Tryd.underlying5 (fun w => size_of (by kernel_rfl) w) ((shaD l).map UInt8.ofNat) ((shaD l).map UInt8.ofNat) (by simp [shaD_len]) (by simp [shaD_len])
  simpa using this
theorem allB_one (s : ByteArray) : allB [s] = bl s := by simp [allB]
theorem allB_two (s t : ByteArray) : allB [s, t] = bl s ++ bl t := by simp [allB]

end Go.Proofs.YtmnkhcefdpcheaaDoor.Sh
