/-
  Arguments that are slips, rows of slips, or arrays of four bytes, opened.
-/
import Derived.Test.YtdmgobffhpgjlaaGreatSlSame
import Derived.ProofKit
import Derived.OpenShut
import Derived.WideKeyArr2
import Derived.WideShapes

namespace Go.Proofs.YtdmgobffhpgjlaaGreat.Sl
open Go.RowKit Go.PlainAid Go.Proofs.YtdmgobffhpgjlaaGreat.Cr Go.ChangeShapes Go.WideShapes Go.ChangeAt Go.WideMaps
set_option linter.unusedVariables false
set_option maxRecDepth 20000
set_option linter.unusedSimpArgs false

section
variable {H : Type} {enc : TypeId × Value → H} {w : World} {base : Nat} {spare : Nat → Bool} {held : Bool} {fuel : Nat} {x : DataW H × List MemPlace} {cs : List Value}
def numOf : Value → Nat
  | .int _ a => a.toNat
  | _ => 0
/-- an array of bytes, out of its cells -/
theorem open_bytes {t : TypeId} {n : Nat} (hu : Tryz.prog.underlying t = some (.array n 5)) (hc : Tryz.prog.cellsOf t = n) (h : DataW.trod enc Tryz.prog w base spare held fuel t cs = some x) :
    ∃ d : List Nat, cs = dV d ∧ d.length = n ∧ ∀ b ∈ d, b < 256 := by
  obtain ⟨xs, m, _, _, hl, hn, hi⟩ := DataW.trod_array hu h
  rw [hc] at hl
  rw [show Tryz.prog.cellsOf 5 = 1 by kernel_rfl] at hi
  have h2 : ∀ i, i < n → ∃ a : Int, cs[i]? = some (.int .u8 a) ∧ 0 ≤ a ∧ a ≤ 255 := by
    intro i hlt
    have h3 := hi i hlt
    obtain ⟨y, hy⟩ : ∃ y, xs[i]? = some y := ⟨xs[i]'(by omega), List.getElem?_eq_getElem _⟩
    rw [hy] at h3
    obtain ⟨a, ea, _, wa⟩ := DataW.trod_int Tryz.underlying5 h3
    refine ⟨a, ?_, ?_⟩
    · rw [Nat.mul_one] at ea
      have h4 := congrArg (fun l => l[0]?) ea
      simpa using h4
    · have := bounds_u8 wa
      omega
  refine ⟨cs.map numOf, ?_, by simpa using hl, ?_⟩
  · refine List.ext_getElem (by simp [dV]) fun i h1 h3 => ?_
    obtain ⟨a, ha, h0, _⟩ := h2 i (by omega)
    rw [List.getElem?_eq_getElem h1] at ha
    have e := Option.some.inj ha
    simp [dV, e, numOf, Int.toNat_of_nonneg h0]
  · intro b hb
    obtain ⟨v, hv, rfl⟩ := List.mem_map.1 hb
    obtain ⟨i, hi', rfl⟩ := List.getElem_of_mem hv
    obtain ⟨a, ha, h0, h1⟩ := h2 i (by omega)
    rw [List.getElem?_eq_getElem hi'] at ha
    rw [Option.some.inj ha]
    simp [numOf]; omega
theorem take_at (l : List Value) (i : Nat) (v : Value) (h : (l.drop i).take 1 = [v]) : l[i]? = some v := by
  have := congrArg (fun q => q[0]?) h
  simpa using this
set_option maxRecDepth 100000 in
/-- a slip, out of its cells -/
theorem open_cells (h : DataW.trod enc Tryz.prog w base spare held fuel 39 cs = some x) : ∃ y : Sp, cs = slL y ∧ Okay y := by
  obtain ⟨xs, n, _, _, hl, hlen, hf⟩ := DataW.trod_struct Tryz.underlying39 h
  rw [show Tryz.prog.cellsOf 39 = 38 by kernel_rfl] at hl
  match xs, hlen with
  | [x0, x1, x2, x3, x4, x5, x6], _ =>
    have ki : Tryz.prog.cellsOf 3 = 1 := by kernel_rfl
    have ks : Tryz.prog.cellsOf 9 = 1 := by kernel_rfl
    have kd : Tryz.prog.cellsOf 37 = 32 := by kernel_rfl
    have g0 : DataW.trod enc Tryz.prog w base spare held n 3 ((cs.drop 0).take (Tryz.prog.cellsOf 3)) = some x0 := hf 0 _ rfl
    have g1 : DataW.trod enc Tryz.prog w base spare held n 9 ((cs.drop 1).take (Tryz.prog.cellsOf 9)) = some x1 := hf 1 _ rfl
    have g2 : DataW.trod enc Tryz.prog w base spare held n 9 ((cs.drop 2).take (Tryz.prog.cellsOf 9)) = some x2 := hf 2 _ rfl
    have g3 : DataW.trod enc Tryz.prog w base spare held n 37 ((cs.drop 3).take (Tryz.prog.cellsOf 37)) = some x3 := hf 3 _ rfl
    have g4 : DataW.trod enc Tryz.prog w base spare held n 9 ((cs.drop 35).take (Tryz.prog.cellsOf 9)) = some x4 := hf 4 _ rfl
    have g5 : DataW.trod enc Tryz.prog w base spare held n 3 ((cs.drop 36).take (Tryz.prog.cellsOf 3)) = some x5 := hf 5 _ rfl
    have g6 : DataW.trod enc Tryz.prog w base spare held n 3 ((cs.drop 37).take (Tryz.prog.cellsOf 3)) = some x6 := hf 6 _ rfl
    rw [ki] at g0 g5 g6
    rw [ks] at g1 g2 g4
    obtain ⟨y0, e0, _, b0⟩ := DataW.trod_int Tryz.underlying3 g0
    obtain ⟨y1, e1, _, b1⟩ := DataW.trod_string Tryz.underlying9 g1
    obtain ⟨y2, e2, _, b2⟩ := DataW.trod_string Tryz.underlying9 g2
    obtain ⟨d, e3, d1, d2⟩ := open_bytes (n := 32) Tryz.underlying37 kd g3
    obtain ⟨y4, e4, _, b4⟩ := DataW.trod_string Tryz.underlying9 g4
    obtain ⟨y5, e5, _, b5⟩ := DataW.trod_int Tryz.underlying3 g5
    obtain ⟨y6, e6, _, b6⟩ := DataW.trod_int Tryz.underlying3 g6
    rw [kd] at e3
    refine ⟨⟨y0, y1, y2, d, y4, y5, y6⟩, ?_, ?_⟩
    · have c0 := take_at _ _ _ e0
      have c1 := take_at _ _ _ e1
      have c2 := take_at _ _ _ e2
      have c4 := take_at _ _ _ e4
      have c5 := take_at _ _ _ e5
      have c6 := take_at _ _ _ e6
      refine List.ext_getElem? fun i => ?_
      have hs : ∀ j v, (slL ⟨y0, y1, y2, d, y4, y5, y6⟩)[j]? = v ↔ (slV ⟨y0, y1, y2, d, y4, y5, y6⟩)[j]? = v := fun j v => by unfold slV; rw [List.getElem?_toArray]
      symm
      rw [hs]
      have hd : (Sp.mk y0 y1 y2 d y4 y5 y6).dig.length = 32 := d1
      by_cases i0 : i = 0
      · subst i0; rw [c0]; exact sl0 _
      by_cases i1 : i = 1
      · subst i1; rw [c1]; exact sl1 _
      by_cases i2 : i = 2
      · subst i2; rw [c2]; exact sl2 _
      by_cases i35 : i = 35
      · subst i35; rw [c4]; exact sl35 hd
      by_cases i36 : i = 36
      · subst i36; rw [c5]; exact sl36 hd
      by_cases i37 : i = 37
      · subst i37; rw [c6]; exact sl37 hd
      by_cases i38 : 38 ≤ i
      · rw [List.getElem?_eq_none (by omega), Array.getElem?_eq_none (by rw [slV_size hd]; omega)]
      · obtain ⟨j, rfl⟩ : ∃ j, i = 3 + j := ⟨i - 3, by omega⟩
        have hj : j < d.length := by omega
        have h5 := congrArg (fun q => q[j]?) e3
        simp only [List.getElem?_take, List.getElem?_drop] at h5
        rw [if_pos (by omega)] at h5
        rw [h5, slD (x := ⟨y0, y1, y2, d, y4, y5, y6⟩) hd (List.getElem?_eq_getElem hj)]
        simp [dV, hj]
    · unfold maxLen at b1 b2 b4
      exact ⟨b1, b2, b4, ⟨d1, d2⟩⟩
theorem open_sls {b : Option Addr} {len cap : Nat} (h : DataW.trod enc Tryz.prog w base spare held fuel 29 [.slice b len cap] = some x) :
    ∃ l : List Sp, SlsAt w (.slice b len cap) l ∧ l.length ≤ 9223372036854775807 := by
  rcases Deep.open_slice Tryz.underlying29 h with ⟨hcs, _⟩ | ⟨a, len', cap', m, n, D, Pl, hcs, hb, hl, hm, hmm, _, hx⟩
  · simp at hcs
    obtain ⟨rfl, rfl, rfl⟩ := hcs
    exact ⟨[], none_sls w, by simp⟩
  · simp at hcs
    obtain ⟨rfl, rfl, rfl⟩ := hcs
    rw [show Tryz.prog.cellsOf 39 = 38 by kernel_rfl] at hx
    have hlm : len ≤ m := by rw [hmm]; split <;> omega
    have hf : ∀ i, i < len → ∃ y : Sp, (∀ k c, (slV y)[k]? = some c → w.cell? ((a.add (i * 38)).add k) = some c) ∧ Okay y := by
      intro i hi
      obtain ⟨cs', h1, h2⟩ := hx i (by omega)
      obtain ⟨y, rfl, y1⟩ := open_cells h2
      refine ⟨y, fun k c hk => ?_, y1⟩
      obtain ⟨_, h3, h4⟩ := World.cells?_some h1
      have hk8 : k < 38 := by
        have := (Array.getElem?_eq_some_iff.1 hk).1
        rwa [slV_size y1.dig.len] at this
      rw [h4 k hk8]
      simpa [slV] using hk
    haveI : Inhabited Sp := ⟨Sp.zero⟩
    obtain ⟨Y, hY⟩ := Deep.choose_lt (α := Sp) (p := fun i y => (∀ k c, (slV y)[k]? = some c → w.cell? ((a.add (i * 38)).add k) = some c) ∧ Okay y) hf
    refine ⟨(List.range len).map Y, ⟨⟨some a, cap, by simp, by simpa using hl, fun j y hj => ?_⟩, ?_⟩, ?_⟩
    · have hlt : j < len := by
        have := (List.getElem?_eq_some_iff.1 hj).1
        simpa using this
      have : y = Y j := by simpa [hlt] using hj.symm
      subst this
      have hb := World.block_lt_of_cell? w _ ((hY j hlt).1 0 _ (sl0 _))
      rw [add_block, add_block] at hb
      exact ⟨a, rfl, hb, (hY j hlt).1⟩
    · intro y hy
      obtain ⟨i, hi, rfl⟩ := List.mem_map.1 hy
      exact (hY i (List.mem_range.1 hi)).2
    · simp; unfold maxLen at hm; omega
end
end Go.Proofs.YtdmgobffhpgjlaaGreat.Sl
