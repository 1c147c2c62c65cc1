/-
  The walk of ChunkWrites.
-/
import Derived.Test.YtjdfninaccaagaaDoorChCuts
import Derived.Test.YtjdfninaccaagaaDoorChRefW
namespace Go.Proofs.YtjdfninaccaagaaDoor.Ch
open Go.RowKit Go.PlainAid
open Hx Fi
set_option linter.unusedVariables false
set_option maxRecDepth 20000
set_option linter.unusedSimpArgs false

theorem walkWrites (s : ByteArray) (by_ : Int) (w : World) (w0 : s.size ≤ maxLen) (w1 : (Lit.int .i64 by_).wf = true) :
    Calls Tryd.prog 4 #[.string s, .int .i64 by_] w fun e w' => e = .returned (.bool true) ∧ Below w.heap.size w w' := by
  unfold maxLen at w0
  obtain ⟨m1, m2⟩ := int_bd w1
  clear w1
  by_cases h1 : 4096 < s.size
  · have d1 : (4096 : Int) < (s.size : Int) := by omega
    go_enter Tryd.func4, Tryd.ntmps4
    go_wp2_with fail
    refine (awake_any _).mono ?_
    rintro e wa ⟨rfl, ba⟩
    go_wp2
    go_ret
    exact ⟨rfl, ba⟩
  · have d1 : ¬ (4096 : Int) < (s.size : Int) := by omega
    have wr := fun w => write_any s by_ w (by omega) m1 m2
    have rw_ := fun w => rwrite_any s by_ w (by omega) m1 m2
    generalize tx (wrt (by_.toNat - 1) (ls s)) = T at wr rw_
    have sT := str_eq T
    clear m1 m2 h1
    go_enter Tryd.func4, Tryd.ntmps4
    go_wp2_with fail
    refine (awake_any _).mono ?_
    rintro e wa ⟨rfl, ba⟩
    go_wp2_with fail
    refine (wr _).mono ?_
    rintro e wb ⟨rfl, bb⟩
    have bel := ba.trans (bb.mono ba.size)
    clear wr ba bb
    go_wp2_with fail
    refine (rw_ _).mono ?_
    rintro e w' ⟨rfl, rfl⟩
    clear rw_
    go_wp2
    go_ret
    exact ⟨rfl, bel⟩
end Go.Proofs.YtjdfninaccaagaaDoor.Ch
