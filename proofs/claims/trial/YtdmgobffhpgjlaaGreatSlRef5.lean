/-
  The document's Read: what its comparisons say.
-/
import Derived.Test.YtdmgobffhpgjlaaGreatSlPar2
import Derived.Test.YtdmgobffhpgjlaaGreatSlRead2

namespace Go.Proofs.YtdmgobffhpgjlaaGreat.Sl
open Go.RowKit Go.PlainAid Go.Proofs.YtdmgobffhpgjlaaGreat.Cr
set_option linter.unusedVariables false
set_option maxRecDepth 20000
set_option linter.unusedSimpArgs false

theorem len2_is {s : ByteArray} (h : 2 ≤ s.size) : len2 (bl s) = bn s 0 * 256 + bn s 1 := by
  unfold len2
  have h1 := part_snoc (s := s) (k := 0) (i := 0) (by omega)
  have h2 := part_snoc (s := s) (k := 0) (i := 1) (by omega)
  rw [List.drop_zero] at h1 h2
  rw [h2, bN_snoc, h1, bN_snoc]
  simp [bN_nil]
theorem two_bytes {s : ByteArray} (h : 2 ≤ s.size) : bits .or .i64 ((bn s 0 : Int) * 256) (bn s 1 : Int) = (len2 (bl s) : Int) := by
  have b0 := bt_le s 0; have b1 := bt_le s 1; have c0 := bn_bt s 0; have c1 := bn_bt s 1
  have := or_byte (bn s 0 : Int) (bn s 1 : Int) (by omega) (by omega)
  have e1 : wrap64 (bn s 0 : Int) = (bn s 0 : Int) := by unfold wrap64; omega
  have e2 : wrap64 ((bn s 0 : Int) * 256) = (bn s 0 : Int) * 256 := by unfold wrap64; omega
  rw [e1, e2] at this
  rw [this, len2_is h]
  unfold wrap64
  omega
theorem frame_is {l : List Nat} (hl : ∀ x ∈ l, x < 256) (h : ¬ l.length < 6) (h2 : ¬ l.length < 6 + len2 l) :
    recL (bodyOf l) = l.take (6 + len2 l) ↔ (l.drop 2).take 4 = le 4 (mor 0 (l.take 2 ++ bodyOf l)) := by
  have hb : (bodyOf l).length = len2 l := by unfold bodyOf; rw [List.length_take, List.length_drop]; omega
  have h2' : (l.take 2).length = 2 := by rw [List.length_take]; omega
  have e2 : be 2 (len2 l : Int) = l.take 2 := by
    have := be_bN (l := l.take 2) (fun x hx => hl x (List.mem_of_mem_take hx))
    rw [h2'] at this
    exact this
  have e3 : l.take (6 + len2 l) = l.take 2 ++ ((l.drop 2).take 4 ++ bodyOf l) := by
    unfold bodyOf
    rw [show 6 + len2 l = 2 + (4 + len2 l) by omega, List.take_add, List.take_add, List.drop_drop]
  unfold recL
  rw [hb, e2, e3, List.append_assoc]
  constructor
  · intro e
    have e4 := List.append_cancel_left e
    exact (List.append_cancel_right e4).symm
  · intro e
    rw [e]
end Go.Proofs.YtdmgobffhpgjlaaGreat.Sl
