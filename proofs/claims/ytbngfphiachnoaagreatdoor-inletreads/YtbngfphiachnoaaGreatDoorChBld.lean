/-
  The library's builder of texts that stands alone: what its methods do. No conditions but that it holds at most 2^40 bytes.
-/
import Derived.Test.YtbngfphiachnoaaGreatDoorSet4
import Derived.Test.YtbngfphiachnoaaGreatDoorSet2
import Derived.Lib.FrozenHead2
import Derived.Lib.OthersKept
import Derived.Laws.Externs
namespace Go.Proofs.YtbngfphiachnoaaGreatDoor.Ch
open Go.RowKit Go.PlainAid
open Hx Fi
set_option linter.unusedVariables false
set_option maxRecDepth 20000
set_option linter.unusedSimpArgs false

/-- below block N nothing but block b has turned -/
structure Keeps (b N : Nat) (w w' : World) : Prop where
  os : w'.os = w.os
  tape : w'.tape = w.tape
  output : w'.output = w.output
  size : w.heap.size ≤ w'.heap.size
  block : ∀ k, k < N → k ≠ b → w'.heap[k]? = w.heap[k]?
theorem Keeps.refl (b N : Nat) (w : World) : Keeps b N w w := ⟨rfl, rfl, rfl, Nat.le_refl _, fun _ _ _ => rfl⟩
theorem Keeps.trans {b N : Nat} {x y z : World} (h : Keeps b N x y) (k : Keeps b N y z) : Keeps b N x z :=
  ⟨k.os.trans h.os, k.tape.trans h.tape, k.output.trans h.output, Nat.le_trans h.size k.size, fun i hi hb => (k.block i hi hb).trans (h.block i hi hb)⟩
theorem Keeps.of_below {b N : Nat} {w w' : World} (h : Below N w w') : Keeps b N w w' := ⟨h.os, h.tape, h.output, h.size, fun k hk _ => h.block k hk⟩
theorem Keeps.set {b N : Nat} (w : World) (j : Nat) (v : Value) : Keeps b N w (w.setCell ⟨b, j, none⟩ v) := ⟨rfl, rfl, rfl, by simp [World.setCell], fun k _ hk => Below.heap_setCell _ _ _ _ hk⟩
theorem Keeps.grown {b N : Nat} {w w' : World} {row : Option Nat} (h : w.grownBy w' row) (hN : N ≤ w.heap.size) (hr : ∀ k, row = some k → N ≤ k) : Keeps b N w w' :=
  ⟨h.os, h.tape, h.output, h.size, fun k hk _ => h.block k (by omega) (fun e => by have := hr k e.symm; omega)⟩
theorem Keeps.below {b N M : Nat} {w0 w w' : World} (h : Keeps b N w w') (hb : Below M w0 w) (hM : M ≤ N) (hbm : M ≤ b) : Below M w0 w' :=
  hb.trans ⟨h.os, h.tape, h.output, h.size, fun k hk => h.block k (by omega) (by omega)⟩
theorem keeps_freeze {b N g : Nat} (w : World) (n : Nat) (hg : N ≤ g) : Keeps b N w (w.freeze ⟨g, 0, none⟩ n) := Keeps.of_below (Lib.below_freeze (Below.refl N w) (p := ⟨g, 0, none⟩) hg n)
end Go.Proofs.YtbngfphiachnoaaGreatDoor.Ch
