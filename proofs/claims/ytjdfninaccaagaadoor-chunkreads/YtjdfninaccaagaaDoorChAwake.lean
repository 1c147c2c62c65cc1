/-
  The document's examples of layer 11: awake answers true.
-/
import Derived.Test.YtjdfninaccaagaaDoorChOwn
namespace Go.Proofs.YtjdfninaccaagaaDoor.Ch
open Go.RowKit Go.PlainAid
open Hx Fi
set_option linter.unusedVariables false
set_option maxRecDepth 20000
set_option linter.unusedSimpArgs false

def aB : ByteArray := ⟨#[51, 13, 10, 97, 98]⟩
def aC : ByteArray := ⟨#[99, 13, 10, 48, 13, 10, 13, 10, 114, 101, 115, 116]⟩
def aD : ByteArray := ⟨#[53, 59, 120, 61, 121, 13, 10]⟩
def aE : ByteArray := ⟨#[97, 98, 99, 100, 101]⟩
theorem run_aB : run 100 init (ls aB) = ⟨.data 1, 2, [97, 98]⟩ := by kernel_rfl
theorem run_aC : run 100 ⟨.data 1, 2, []⟩ (ls aC) = ⟨.done [114, 101, 115, 116], 3, [99]⟩ := by kernel_rfl
theorem run_aD : run 4 init (ls aD) = ⟨.err 4, 0, []⟩ := by kernel_rfl
theorem wrt_aE : tx (wrt 2 (ls aE)) = ⟨#[51, 13, 10, 97, 98, 99, 13, 10, 50, 13, 10, 100, 101, 13, 10, 48, 13, 10, 13, 10]⟩ := by
  have h1 : ls aE ≠ [] := by decide
  have h2 : (ls aE).drop (2 + 1) ≠ [] := by decide
  have d3 : digL 14 (min (2 + 1) (ls aE).length) = [51] := by
    rw [show min (2 + 1) (ls aE).length = 3 from rfl, digL_small 14 3 (by omega)]; decide
  have d2 : digL 14 (min (2 + 1) ((ls aE).drop (2 + 1)).length) = [50] := by
    rw [show min (2 + 1) ((ls aE).drop (2 + 1)).length = 2 from rfl, digL_small 14 2 (by omega)]; decide
  rw [wrt_more 2 h1, d3, wrt_more 2 h2, d2, show ((ls aE).drop (2 + 1)).drop (2 + 1) = [] from rfl, wrt_nil]
  rfl
set_option maxHeartbeats 4000000 in
theorem awake_any (w : World) : Calls Tryd.prog 7 #[] w fun e w' => e = .returned (.bool true) ∧ Below w.heap.size w w' := by
  have O0 := Own.none w
  have ok2 : CS.Ok 100 ⟨.data 1, 2, []⟩ := ⟨by decide, by decide, Nat.one_pos⟩
  go_enter Tryd.func7, Tryd.ntmps7
  go_wp2_with fail
  refine (own_new O0 100 (by omega) (by omega)).mono ?_
  rintro e w1 ⟨p, rfl, O1⟩
  clear O0
  have O1 : Own w w1 [⟨p, 100, init⟩] := O1
  have c1 := own_add O1 0 (p := p) (most := 100) (s := init) rfl (init_ok 100) (by omega) aB (by decide) (by decide) (by decide)
  rw [run_aB] at c1
  unfold aB at c1
  go_wp2_with fail
  refine c1.mono ?_
  rintro e w2 ⟨rfl, O2⟩
  have O2 : Own w w2 [⟨p, 100, ⟨.data 1, 2, [97, 98]⟩⟩] := O2
  clear c1 O1
  have c2 := own_take O2 0 (p := p) (most := 100) (s := ⟨.data 1, 2, [97, 98]⟩) rfl
  rw [show tx (CS.u ⟨.data 1, 2, [97, 98]⟩) = ⟨#[97, 98]⟩ from rfl] at c2
  go_wp2_with fail
  refine c2.mono ?_
  rintro e w3 ⟨rfl, O3⟩
  have O3 : Own w w3 [⟨p, 100, ⟨.data 1, 2, []⟩⟩] := O3
  clear c2 O2
  have c3 := own_done O3 0 (p := p) (most := 100) (s := ⟨.data 1, 2, []⟩) rfl
  rw [show (CS.md ⟨.data 1, 2, []⟩).isDone = false from rfl] at c3
  go_wp2_with fail
  refine c3.mono ?_
  rintro e w' ⟨rfl, rfl⟩
  clear c3
  have c4 := own_add O3 0 (p := p) (most := 100) (s := ⟨.data 1, 2, []⟩) rfl ok2 (by omega) aC (by decide) (by decide) (by decide)
  rw [run_aC] at c4
  unfold aC at c4
  go_wp2_with fail
  refine c4.mono ?_
  rintro e w4 ⟨rfl, O4⟩
  have O4 : Own w w4 [⟨p, 100, ⟨.done [114, 101, 115, 116], 3, [99]⟩⟩] := O4
  clear c4 O3
  go_wp2_with fail
  refine (own_new O4 4 (by omega) (by omega)).mono ?_
  rintro e w5 ⟨q, rfl, O5⟩
  clear O4
  have O5 : Own w w5 [⟨p, 100, ⟨.done [114, 101, 115, 116], 3, [99]⟩⟩, ⟨q, 4, init⟩] := O5
  have c6 := own_take O5 0 (p := p) (most := 100) (s := ⟨.done [114, 101, 115, 116], 3, [99]⟩) rfl
  rw [show tx (CS.u ⟨.done [114, 101, 115, 116], 3, [99]⟩) = ⟨#[99]⟩ from rfl] at c6
  go_wp2_with fail
  refine c6.mono ?_
  rintro e w6 ⟨rfl, O6⟩
  have O6 : Own w w6 [⟨p, 100, ⟨.done [114, 101, 115, 116], 3, []⟩⟩, ⟨q, 4, init⟩] := O6
  clear c6 O5
  have c7 := own_done O6 0 (p := p) (most := 100) (s := ⟨.done [114, 101, 115, 116], 3, []⟩) rfl
  have c8 := own_rest O6 0 (p := p) (most := 100) (s := ⟨.done [114, 101, 115, 116], 3, []⟩) rfl
  have c9 := own_size O6 0 (p := p) (most := 100) (s := ⟨.done [114, 101, 115, 116], 3, []⟩) rfl
  rw [show (CS.md ⟨.done [114, 101, 115, 116], 3, []⟩).isDone = true from rfl] at c7
  rw [show tx (CS.md ⟨.done [114, 101, 115, 116], 3, []⟩).rest = ⟨#[114, 101, 115, 116]⟩ from rfl] at c8
  rw [show ((CS.n ⟨.done [114, 101, 115, 116], 3, []⟩ : Nat) : Int) = 3 from rfl] at c9
  go_wp2_with fail
  refine c7.mono ?_
  rintro e w' ⟨rfl, rfl⟩
  clear c7
  go_wp2_with fail
  refine c8.mono ?_
  rintro e w' ⟨rfl, rfl⟩
  clear c8
  go_wp2_with fail
  refine c9.mono ?_
  rintro e w' ⟨rfl, rfl⟩
  clear c9
  have c10 := own_add O6 1 (p := q) (most := 4) (s := init) rfl (init_ok 4) (by omega) aD (by decide) (by decide) (by decide)
  rw [run_aD] at c10
  unfold aD at c10
  go_wp2_with fail
  refine c10.mono ?_
  rintro e w7 ⟨rfl, O7⟩
  clear c10 O6
  have c11 := write_any aE 3 w7 (by decide) (by omega) (by omega)
  rw [show (3 : Int).toNat - 1 = 2 from rfl, wrt_aE] at c11
  unfold aE at c11
  have b7 := O7.bel
  clear O7
  go_wp2_with fail
  refine c11.mono ?_
  rintro e w8 ⟨rfl, b8⟩
  clear c11
  have b9 := b7.trans (b8.mono b7.size)
  go_wp2
  go_ret
  exact ⟨rfl, b9⟩
end Go.Proofs.YtjdfninaccaagaaDoor.Ch
