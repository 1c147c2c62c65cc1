/-
  Contracts of filled, valuesOf and Get of package field.
-/
import Derived.Test.YtdldoklkenhopaaDoorFiSuf
import Derived.Test.YtdldoklkenhopaaDoorFiTrim2
import Derived.Test.YtdldoklkenhopaaDoorFiSplit
namespace Go.Proofs.YtdldoklkenhopaaDoor.Fi
open Go.RowKit Go.PlainAid
open Hx
set_option linter.unusedVariables false
set_option maxRecDepth 20000
set_option linter.unusedSimpArgs false

theorem StrsAt.at {w : World} {base : Option Addr} {n cap : Nat} {ss : List ByteArray} (h : StrsAt w (.slice base n cap) ss) {j : Nat} {s : ByteArray} (hj : ss[j]? = some s) : ∃ a : Addr, base = some a ∧ a.block < w.heap.size ∧ w.cell? (a.add j) = some (.string s) := by
  obtain ⟨base', cap', e, hl, hc⟩ := h.is
  injection e with e1 e2 e3
  subst e1
  exact hc j s hj
theorem StrsAt.len {w : World} {base : Option Addr} {n cap : Nat} {ss : List ByteArray} (h : StrsAt w (.slice base n cap) ss) : n = ss.length ∧ n ≤ cap := by
  obtain ⟨base', cap', e, hl, hc⟩ := h.is
  injection e with e1 e2 e3
  subst e2 e3
  exact ⟨rfl, hl⟩
theorem new_str (w : World) (s : ByteArray) : ∀ j u, ([Value.string s] : List Value)[j]? = some u → (w.alloc (.cells #[.string s] 9)).cell? ((⟨w.heap.size, 0, none⟩ : Addr).add j) = some u := by
  intro j u hj
  rw [add_at, Nat.zero_add, (At.new w _ _).cell]
  simpa using hj
/-- a row of texts that a call makes -/
def OwnS (w w' : World) (v : Value) (ss : List ByteArray) : Prop := w'.ownsRow w.heap.size 9 1 v ss.length (strsL ss) ∧ Below w.heap.size w w'
theorem OwnS.at {w w' : World} {v : Value} {ss : List ByteArray} (h : OwnS w w' v ss) : StrsAt w' v ss := owns_strs h.1
def fillF (ss : List ByteArray) : List ByteArray := ss.filter fun s => decide (s.size ≠ 0)
theorem fillF_yes {ss : List ByteArray} {k : Nat} {s : ByteArray} (h : ss[k]? = some s) (h0 : 0 < s.size) : fillF (ss.take (k + 1)) = fillF (ss.take k) ++ [s] := by
  unfold fillF
  rw [List.take_add_one, h, List.filter_append]
  have e : decide (s.size ≠ 0) = true := decide_eq_true (by omega)
  congr 1
  simp only [Option.toList_some, List.filter_cons, e, List.filter_nil, if_true]
theorem fillF_no {ss : List ByteArray} {k : Nat} {s : ByteArray} (h : ss[k]? = some s) (h0 : s.size = 0) : fillF (ss.take (k + 1)) = fillF (ss.take k) := by
  unfold fillF
  have e : decide (s.size ≠ 0) = false := decide_eq_false (fun c => c h0)
  rw [List.take_add_one, h, List.filter_append]
  simp only [Option.toList_some, List.filter_cons, e, List.filter_nil, Bool.false_eq_true, if_false, List.append_nil]
theorem fillF_len (ss : List ByteArray) (k : Nat) : (fillF (ss.take k)).length ≤ k := by
  unfold fillF
  refine Nat.le_trans (List.length_filter_le _ _) ?_
  rw [List.length_take]; omega
/-! ### the values of a name -/
def valsF (name : List UInt8) (xs : List Fd) : List ByteArray := (xs.filter fun f => sameL (ls f.n) name).map Fd.v
theorem valsF_yes {name : List UInt8} {xs : List Fd} {k : Nat} {x : Fd} (h : xs[k]? = some x) (h0 : sameL (ls x.n) name = true) : valsF name (xs.take (k + 1)) = valsF name (xs.take k) ++ [x.v] := by
  unfold valsF
  rw [List.take_add_one, h, List.filter_append, List.map_append]
  simp only [Option.toList_some, List.filter_cons, h0, List.filter_nil, if_true, List.map_cons, List.map_nil]
theorem valsF_no {name : List UInt8} {xs : List Fd} {k : Nat} {x : Fd} (h : xs[k]? = some x) (h0 : sameL (ls x.n) name = false) : valsF name (xs.take (k + 1)) = valsF name (xs.take k) := by
  unfold valsF
  rw [List.take_add_one, h, List.filter_append, List.map_append]
  simp only [Option.toList_some, List.filter_cons, h0, List.filter_nil, Bool.false_eq_true, if_false, List.map_nil, List.append_nil]
theorem valsF_le (name : List UInt8) (xs : List Fd) : (valsF name xs).length ≤ xs.length := by
  unfold valsF
  rw [List.length_map]
  exact List.length_filter_le _ _
theorem valsF_mem {name : List UInt8} {xs : List Fd} {s : ByteArray} (h : s ∈ valsF name xs) : ∃ x ∈ xs, s = x.v := by
  unfold valsF at h
  obtain ⟨x, hx, rfl⟩ := List.mem_map.1 h
  exact ⟨x, (List.mem_filter.1 hx).1, rfl⟩
/-- fields whose texts are within the reach -/
def Reach (xs : List Fd) : Prop := ∀ x ∈ xs, x.n.size ≤ 140737488355328 ∧ x.v.size ≤ 140737488355328
/-! ### Get -/
def getS (name : List UInt8) (xs : List Fd) : ByteArray := ((valsF name xs)[0]?).getD ⟨#[]⟩
def getN (name : List UInt8) (xs : List Fd) : Nat := (valsF name xs).length
theorem getS_le {name : List UInt8} {xs : List Fd} (h : Reach xs) : (getS name xs).size ≤ 140737488355328 := by
  unfold getS
  cases hq : (valsF name xs)[0]? with
  | none => exact Nat.zero_le _
  | some s =>
    obtain ⟨x, hx, rfl⟩ := valsF_mem (List.mem_of_getElem? hq)
    exact (h x hx).2
end Go.Proofs.YtdldoklkenhopaaDoor.Fi
