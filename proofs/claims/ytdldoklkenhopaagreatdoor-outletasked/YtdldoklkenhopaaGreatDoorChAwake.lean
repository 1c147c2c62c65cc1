/-
  The document's examples of layer 11: awake answers true.
-/
import Derived.Test.YtdldoklkenhopaaGreatDoorChOwn
namespace Go.Proofs.YtdldoklkenhopaaGreatDoor.Ch
open Go.RowKit Go.PlainAid
open Hx Fi
set_option linter.unusedVariables false
set_option maxRecDepth 20000
set_option linter.unusedSimpArgs false

def aB : ByteArray := ⟨#[51, 13, 10, 97, 98]⟩
def aC : ByteArray := ⟨#[99, 13, 10, 48, 13, 10, 13, 10, 114, 101, 115, 116]⟩
def aD : ByteArray := ⟨#[53, 59, 120, 61, 121, 13, 10]⟩
def aE : ByteArray := ⟨#[97, 98, 99, 100, 101]⟩
theorem run_aB : run 100 init (ls aB) = ⟨.data 1, 2, [97, 98]⟩ := by kernel_rfl
theorem run_aC : run 100 ⟨.data 1, 2, []⟩ (ls aC) = ⟨.done [114, 101, 115, 116], 3, [99]⟩ := by kernel_rfl
theorem run_aD : run 4 init (ls aD) = ⟨.err 4, 0, []⟩ := by kernel_rfl
theorem wrt_aE : tx (wrt 2 (ls aE)) = ⟨#[51, 13, 10, 97, 98, 99, 13, 10, 50, 13, 10, 100, 101, 13, 10, 48, 13, 10, 13, 10]⟩ := by
  have h1 : ls aE ≠ [] := by decide
  have h2 : (ls aE).drop (2 + 1) ≠ [] := by decide
  have d3 : digL 14 (min (2 + 1) (ls aE).length) = [51] := by
    rw [show min (2 + 1) (ls aE).length = 3 from rfl, digL_small 14 3 (by omega)]; decide
  have d2 : digL 14 (min (2 + 1) ((ls aE).drop (2 + 1)).length) = [50] := by
    rw [show min (2 + 1) ((ls aE).drop (2 + 1)).length = 2 from rfl, digL_small 14 2 (by omega)]; decide
  rw [wrt_more 2 h1, d3, wrt_more 2 h2, d2, show ((ls aE).drop (2 + 1)).drop (2 + 1) = [] from rfl, wrt_nil]
  rfl
end Go.Proofs.YtdldoklkenhopaaGreatDoor.Ch
