/-
  A row of acts of the log among a law's arguments.
-/
import Derived.Test.YtdmgobffhpgjlaaGreatDxHas
import Derived.Test.YtdmgobffhpgjlaaGreatDgGreat

namespace Go.Proofs.YtdmgobffhpgjlaaGreat.Sl.Dg
open Go.RowKit Go.PlainAid Go.Proofs.YtdmgobffhpgjlaaGreat.Cr
open Go.Proofs.YtdmgobffhpgjlaaGreat.Pk (Bs Fi Dk kl i64_le LoadsA)
set_option linter.unusedVariables false
set_option maxRecDepth 20000
set_option linter.unusedSimpArgs false

structure Ac where
  kd : Int
  x : Sp
  lb : Option Addr
  lc : Nat
  ls : List Sp
  pos : Int
  n : Int
  m : Int
  s : ByteArray
def Ac.v (y : Ac) : Value := .slice y.lb y.ls.length y.lc
def Ac.cells (y : Ac) : Array Value := actV y.kd y.x y.v y.pos y.n y.m y.s
structure Ac.Ok (y : Ac) : Prop where
  x : Okay y.x
  pos : y.pos ≤ 9223372036854775807
  n : y.n ≤ 9223372036854775807
  m : y.m ≤ 9223372036854775807
  s : y.s.size ≤ 9223372036854775807
  l : y.ls.length ≤ 9223372036854775807
  nl : y.lb = none → y.lc = 0
structure ActsAt (w : World) (v : Value) (xs : List Ac) : Prop where
  is : ∃ base cap, v = .slice base xs.length cap ∧ ∀ j x, xs[j]? = some x → ∃ a : Addr, base = some a ∧ a.block < w.heap.size ∧ ∀ i c, x.cells[i]? = some c → w.cell? ((a.add (j * 44)).add i) = some c
  ok : ∀ x ∈ xs, x.Ok
  ls : ∀ x ∈ xs, SlsAt w x.v x.ls
theorem none_acts (w : World) : ActsAt w (.slice none 0 0) [] := ⟨⟨none, 0, rfl, by simp⟩, by simp, by simp⟩
theorem cut_at (l : List Value) (i k : Nat) : l.drop i = (l.drop i).take k ++ l.drop (i + k) := by
  rw [← List.drop_drop]
  exact (List.take_append_drop k (l.drop i)).symm
section
variable {H : Type} {enc : TypeId × Value → H} {w : World} {base : Nat} {spare : Nat → Bool} {held : Bool} {fuel : Nat} {x : DataW H × List MemPlace}
set_option maxRecDepth 100000 in
/-- one act, out of its cells -/
theorem open_act {cs : List Value} (h : DataW.trod enc Tryz.prog w base spare held fuel 41 cs = some x) : ∃ y : Ac, cs = y.cells.toList ∧ y.Ok ∧ SlsAt w y.v y.ls := by
  obtain ⟨xs, n, _, _, hl, hlen, hf⟩ := DataW.trod_struct Tryz.underlying41 h
  rw [show Tryz.prog.cellsOf 41 = 44 by kernel_rfl] at hl
  match xs, hlen with
  | [x0, x1, x2, x3, x4, x5, x6], _ =>
    have ki : Tryz.prog.cellsOf 3 = 1 := by kernel_rfl
    have ks : Tryz.prog.cellsOf 9 = 1 := by kernel_rfl
    have kx : Tryz.prog.cellsOf 39 = 38 := by kernel_rfl
    have kv : Tryz.prog.cellsOf 29 = 1 := by kernel_rfl
    have g0 : DataW.trod enc Tryz.prog w base spare held n 3 ((cs.drop 0).take (Tryz.prog.cellsOf 3)) = some x0 := hf 0 _ rfl
    have g1 : DataW.trod enc Tryz.prog w base spare held n 39 ((cs.drop 1).take (Tryz.prog.cellsOf 39)) = some x1 := hf 1 _ rfl
    have g2 : DataW.trod enc Tryz.prog w base spare held n 29 ((cs.drop 39).take (Tryz.prog.cellsOf 29)) = some x2 := hf 2 _ rfl
    have g3 : DataW.trod enc Tryz.prog w base spare held n 3 ((cs.drop 40).take (Tryz.prog.cellsOf 3)) = some x3 := hf 3 _ rfl
    have g4 : DataW.trod enc Tryz.prog w base spare held n 3 ((cs.drop 41).take (Tryz.prog.cellsOf 3)) = some x4 := hf 4 _ rfl
    have g5 : DataW.trod enc Tryz.prog w base spare held n 3 ((cs.drop 42).take (Tryz.prog.cellsOf 3)) = some x5 := hf 5 _ rfl
    have g6 : DataW.trod enc Tryz.prog w base spare held n 9 ((cs.drop 43).take (Tryz.prog.cellsOf 9)) = some x6 := hf 6 _ rfl
    rw [ki] at g0 g3 g4 g5
    rw [ks] at g6
    rw [kv] at g2
    obtain ⟨y0, e0, _, b0⟩ := DataW.trod_int Tryz.underlying3 g0
    obtain ⟨y1, e1, ok1⟩ := open_cells g1
    obtain ⟨y3, e3, _, b3⟩ := DataW.trod_int Tryz.underlying3 g3
    obtain ⟨y4, e4, _, b4⟩ := DataW.trod_int Tryz.underlying3 g4
    obtain ⟨y5, e5, _, b5⟩ := DataW.trod_int Tryz.underlying3 g5
    obtain ⟨y6, e6, _, b6⟩ := DataW.trod_string Tryz.underlying9 g6
    rw [kx] at e1
    have hv : ∃ b len cap, (cs.drop 39).take 1 = [Value.slice b len cap] ∧ (b = none → cap = 0) := by
      rcases Deep.open_slice Tryz.underlying29 g2 with ⟨hcs, _⟩ | ⟨a, len', cap', m, n, D, Pl, hcs, _⟩
      · exact ⟨_, _, _, hcs, fun _ => rfl⟩
      · exact ⟨_, _, _, hcs, fun e => by cases e⟩
    obtain ⟨b, len, cap, e2, nl⟩ := hv
    rw [e2] at g2
    obtain ⟨l, hls, hll⟩ := open_sls g2
    obtain ⟨hn, _⟩ := hls.len
    subst hn
    refine ⟨⟨y0, y1, b, cap, l, y3, y4, y5, y6⟩, ?_, ⟨ok1, i64_le b3, i64_le b4, i64_le b5, b6, hll, nl⟩, hls⟩
    have h0 := cut_at cs 0 1
    have h1 := cut_at cs 1 38
    have h2 := cut_at cs 39 1
    have h3 := cut_at cs 40 1
    have h4 := cut_at cs 41 1
    have h5 := cut_at cs 42 1
    have h6 := cut_at cs 43 1
    have h7 : cs.drop 44 = [] := List.drop_eq_nil_of_le (by omega)
    simp only [Nat.reduceAdd] at h0 h1 h2 h3 h4 h5 h6
    rw [e0] at h0
    rw [e1] at h1
    rw [e2] at h2
    rw [e3] at h3
    rw [e4] at h4
    rw [e5] at h5
    rw [e6] at h6
    rw [h1, h2, h3, h4, h5, h6, h7, List.drop_zero] at h0
    rw [h0]
    rfl
theorem open_acts {b : Option Addr} {len cap : Nat} (h : DataW.trod enc Tryz.prog w base spare held fuel 22 [.slice b len cap] = some x) :
    ∃ l : List Ac, ActsAt w (.slice b len cap) l ∧ l.length ≤ 9223372036854775807 := by
  rcases Deep.open_slice Tryz.underlying22 h with ⟨hcs, _⟩ | ⟨a, len', cap', m, n, D, Pl, hcs, hb, hl, hm, hmm, _, hx⟩
  · simp at hcs
    obtain ⟨rfl, rfl, rfl⟩ := hcs
    exact ⟨[], none_acts w, by simp⟩
  · simp at hcs
    obtain ⟨rfl, rfl, rfl⟩ := hcs
    rw [show Tryz.prog.cellsOf 41 = 44 by kernel_rfl] at hx
    have hlm : len ≤ m := by rw [hmm]; split <;> omega
    have hf : ∀ i, i < len → ∃ y : Ac, (∀ k c, y.cells[k]? = some c → w.cell? ((a.add (i * 44)).add k) = some c) ∧ y.Ok ∧ SlsAt w y.v y.ls := by
      intro i hi
      obtain ⟨cs', h1, h2⟩ := hx i (by omega)
      obtain ⟨y, rfl, y1, y2⟩ := open_act h2
      refine ⟨y, fun k c hk => ?_, y1, y2⟩
      obtain ⟨_, h3, h4⟩ := World.cells?_some h1
      have hk8 : k < 44 := by
        have := (Array.getElem?_eq_some_iff.1 hk).1
        have e : y.cells.size = 44 := act_size y1.x.dig.len
        omega
      rw [h4 k hk8]
      simpa using hk
    haveI : Inhabited Ac := ⟨⟨0, Sp.zero, none, 0, [], 0, 0, 0, .empty⟩⟩
    obtain ⟨Y, hY⟩ := Deep.choose_lt (α := Ac) (p := fun i y => (∀ k c, y.cells[k]? = some c → w.cell? ((a.add (i * 44)).add k) = some c) ∧ y.Ok ∧ SlsAt w y.v y.ls) hf
    have mem : ∀ y ∈ (List.range len).map Y, ∃ i, i < len ∧ y = Y i := by
      intro y hy
      obtain ⟨i, hi, rfl⟩ := List.mem_map.1 hy
      exact ⟨i, List.mem_range.1 hi, rfl⟩
    refine ⟨(List.range len).map Y, ⟨⟨some a, cap, by simp, fun j y hj => ?_⟩, ?_, ?_⟩, ?_⟩
    · have hlt : j < len := by
        have := (List.getElem?_eq_some_iff.1 hj).1
        simpa using this
      have : y = Y j := by simpa [hlt] using hj.symm
      subst this
      have hb := World.block_lt_of_cell? w _ ((hY j hlt).1 0 _ rfl)
      rw [add_block, add_block] at hb
      exact ⟨a, rfl, hb, (hY j hlt).1⟩
    · intro y hy
      obtain ⟨i, hi, rfl⟩ := mem y hy
      exact (hY i hi).2.1
    · intro y hy
      obtain ⟨i, hi, rfl⟩ := mem y hy
      exact (hY i hi).2.2
    · simp; unfold maxLen at hm; omega
end
theorem cells_size {y : Ac} (h : y.Ok) : y.cells.size = 44 := act_size h.x.dig.len
theorem loads_act {w : World} {a : Addr} {x : Ac} (ok : x.Ok) (h : ∀ i c, x.cells[i]? = some c → w.cell? (a.add i) = some c) : Loads Tryz.prog w 41 a x.cells := by
  unfold Loads loadVar
  have hl := run_loadCells_list (P := Tryz.prog) w a x.cells.toList (fun j v hv => h j v (by simpa using hv))
  have hz : (sizeOf 41).run Tryz.prog w = .ok 44 w := size_of (by kernel_rfl) w
  rw [show x.cells.toList.length = 44 from (by rw [Array.length_toList]; exact cells_size ok), Array.toArray_toList] at hl
  simp only [Sem.run_bind, run_isAgg (P := Tryz.prog) (t := 41) (by kernel_rfl) w, Result.andThen_ok, if_true, hz]
  rw [hl]
  rfl
theorem ActsAt.below {w w' : World} {v : Value} {xs : List Ac} (h : ActsAt w v xs) (hb : Below w.heap.size w w') : ActsAt w' v xs := by
  obtain ⟨base, cap, e, hc⟩ := h.is
  refine ⟨⟨base, cap, e, fun j x hj => ?_⟩, h.ok, fun x hx => (h.ls x hx).below hb⟩
  obtain ⟨a, ea, h1, h2⟩ := hc j x hj
  exact ⟨a, ea, Nat.lt_of_lt_of_le h1 hb.size, fun i c hi => by rw [hb.cell (by rw [add_block, add_block]; exact h1)]; exact h2 i c hi⟩
end Go.Proofs.YtdmgobffhpgjlaaGreat.Sl.Dg
