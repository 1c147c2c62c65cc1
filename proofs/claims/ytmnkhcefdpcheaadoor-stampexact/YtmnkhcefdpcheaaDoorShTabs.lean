/-
  What the rows' list of variables gives: the two tables of package sha lie as the program's text lays them; a world in which they do.
-/
import Derived.Test.YtmnkhcefdpcheaaDoorShAwake
import Derived.Test.YtmnkhcefdpcheaaDoorCards
import Derived.Test.YtmnkhcefdpcheaaDoorTie
import Derived.Lib.LaidTab
import Derived.Stop.LaidErr
import Derived.ProofKit
namespace Go.Proofs.YtmnkhcefdpcheaaDoor.Sh
open Go.RowKit Go.ChangeShapes Go.WideShapes Go.ChangeAt
set_option linter.unusedVariables false

theorem g0 : Tryd.prog.globalNamed "manciple/sha.startState" = some 0 := by kernel_rfl
theorem g1 : Tryd.prog.globalNamed "manciple/sha.roundKeys" = some 1 := by kernel_rfl
theorem g0t : (Tryd.prog.globals[0]?).map (·.type) = some 53 := by kernel_rfl
theorem g1t : (Tryd.prog.globals[1]?).map (·.type) = some 65 := by kernel_rfl
theorem tab_of {W : World} {name : String} {g : Nat} {l : List Nat} (hg : Tryd.prog.globalNamed name = some g) (h : Lib.TabIs Tryd.prog W name .u32 (l.map fun n : Nat => (n : Int))) : Tab W g l := by
  unfold Lib.TabIs World.var? at h
  rw [hg] at h
  simp only [Option.bind_some] at h
  split at h
  · rename_i cs t fr hh
    refine ⟨t, fr, ?_⟩
    rw [hh]
    have := Option.some.inj h
    rw [this]
    simp [vals]
  · cases h
theorem tabs_of {W : World} (h : laidMetH Tryd.prog [("manciple/sha.startState", Rows.laid_manciple_sha_startState), ("manciple/sha.roundKeys", Rows.laid_manciple_sha_roundKeys)] W) : Tabs W := by
  have h0 : laidMet Tryd.prog (("manciple/sha.startState", Lib.tabData .u32 (start.map fun n : Nat => (n : Int))) :: [("manciple/sha.roundKeys", Lib.tabData .u32 (keys.map fun n : Nat => (n : Int)))]) W := h
  have a := Lib.tabIs_of_head g0 g0t Tryd.underlying53 Tryd.underlying52 (by kernel_rfl) (by kernel_rfl) h0
  have b := Lib.tabIs_of_head g1 g1t Tryd.underlying65 Tryd.underlying52 (by kernel_rfl) (by kernel_rfl) h0.tail
  exact ⟨tab_of g0 a, tab_of g1 b⟩
def layRow (cs : Array Value) : Obj → Obj
  | .cells _ t frozen => .cells cs t frozen
  | o => o
noncomputable def laidWorld (os : Os) : World :=
  { World.holding Tryd.prog os ⟨#[], #[], []⟩ with heap := ((World.holding Tryd.prog os ⟨#[], #[], []⟩).heap.modify 0 (layRow (vals .u32 start).toArray)).modify 1 (layRow (vals .u32 keys).toArray) }
end Go.Proofs.YtmnkhcefdpcheaaDoor.Sh
