/-
  The document's examples of layer 8: awake answers true; great.
-/
import Derived.Test.YtdmgobffhpgjlaaSlAll
namespace Go.Proofs.Ytdmgobffhpgjlaa.Sl
open Go.RowKit Go.PlainAid Go.Proofs.Ytdmgobffhpgjlaa.Cr
set_option linter.unusedVariables false
set_option maxRecDepth 20000
set_option linter.unusedSimpArgs false

def greatB (x : Sp) : Bool := decide (500 < x.repo.size) || (decide (500 < x.tag.size) || decide (500 < x.ty.size))
def d7 : List Nat := 7 :: List.replicate 31 0
def x0 : Sp := ⟨5, none8, none8, d7, none8, 0, 0⟩
theorem d7_dig : Dig d7 := ⟨by simp [d7], by intro b hb; simp [d7] at hb; omega⟩
theorem x0_can : Can x0 := ⟨by decide, by decide, fun _ => ⟨rfl, rfl⟩, by decide, fun _ => ⟨rfl, rfl⟩, fun _ => rfl, by decide, by decide, by decide, d7_dig⟩
theorem x0_len : (bodyL x0).length = 33 := by decide
theorem x0_lit : (#[.int .i64 5, .string ⟨#[]⟩, .string ⟨#[]⟩, .int .u8 7, .int .u8 0, .int .u8 0, .int .u8 0, .int .u8 0, .int .u8 0, .int .u8 0, .int .u8 0, .int .u8 0, .int .u8 0, .int .u8 0, .int .u8 0, .int .u8 0, .int .u8 0, .int .u8 0, .int .u8 0, .int .u8 0, .int .u8 0, .int .u8 0, .int .u8 0, .int .u8 0, .int .u8 0, .int .u8 0, .int .u8 0, .int .u8 0, .int .u8 0, .int .u8 0, .int .u8 0, .int .u8 0, .int .u8 0, .int .u8 0, .int .u8 0, .string ⟨#[]⟩, .int .i64 0, .int .i64 0] : Array Value) = slV x0 := by
  simp [slV, slL, dV, x0, d7, none8, List.replicate]
theorem x0_keep (w : World) :
    ∃ X, Stores Try.prog (w.alloc (.cells #[.int .i64 0, .string ⟨#[]⟩, .string ⟨#[]⟩, .int .u8 0, .int .u8 0, .int .u8 0, .int .u8 0, .int .u8 0, .int .u8 0, .int .u8 0, .int .u8 0, .int .u8 0, .int .u8 0, .int .u8 0, .int .u8 0, .int .u8 0, .int .u8 0, .int .u8 0, .int .u8 0, .int .u8 0, .int .u8 0, .int .u8 0, .int .u8 0, .int .u8 0, .int .u8 0, .int .u8 0, .int .u8 0, .int .u8 0, .int .u8 0, .int .u8 0, .int .u8 0, .int .u8 0, .int .u8 0, .int .u8 0, .int .u8 0, .string ⟨#[]⟩, .int .i64 0, .int .i64 0] 37)) 37 w.heap.size 0 #[.int .i64 5, .string ⟨#[]⟩, .string ⟨#[]⟩, .int .u8 7, .int .u8 0, .int .u8 0, .int .u8 0, .int .u8 0, .int .u8 0, .int .u8 0, .int .u8 0, .int .u8 0, .int .u8 0, .int .u8 0, .int .u8 0, .int .u8 0, .int .u8 0, .int .u8 0, .int .u8 0, .int .u8 0, .int .u8 0, .int .u8 0, .int .u8 0, .int .u8 0, .int .u8 0, .int .u8 0, .int .u8 0, .int .u8 0, .int .u8 0, .int .u8 0, .int .u8 0, .int .u8 0, .int .u8 0, .int .u8 0, .int .u8 0, .string ⟨#[]⟩, .int .i64 0, .int .i64 0] X ∧ At X w.heap.size 37 (slV x0) ∧ Below w.heap.size w X ∧ X.heap.size = w.heap.size + 1 := by
  rw [x0_lit]
  exact x_keep w d7_dig.len
theorem zero_not : ¬ Can Sp.zero := fun h => by have := h.k; have e : Sp.zero.k = 0 := rfl; omega
theorem write_zero (w : World) : Calls Try.prog 28 #[.agg #[.int .i64 0, .string ⟨#[]⟩, .string ⟨#[]⟩, .int .u8 0, .int .u8 0, .int .u8 0, .int .u8 0, .int .u8 0, .int .u8 0, .int .u8 0, .int .u8 0, .int .u8 0, .int .u8 0, .int .u8 0, .int .u8 0, .int .u8 0, .int .u8 0, .int .u8 0, .int .u8 0, .int .u8 0, .int .u8 0, .int .u8 0, .int .u8 0, .int .u8 0, .int .u8 0, .int .u8 0, .int .u8 0, .int .u8 0, .int .u8 0, .int .u8 0, .int .u8 0, .int .u8 0, .int .u8 0, .int .u8 0, .int .u8 0, .string ⟨#[]⟩, .int .i64 0, .int .i64 0]] w fun e w' => e = .returned (.tuple #[.string ⟨#[]⟩, .int .i64 1]) ∧ Below w.heap.size w w' := by
  rw [zslip]
  exact write_no Sp.zero w ⟨by decide, by decide, by decide, zeros_dig⟩ zero_not
end Go.Proofs.Ytdmgobffhpgjlaa.Sl
