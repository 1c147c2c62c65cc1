/-
  The document's examples of layer 2: awake answers true.
-/
import Derived.Test.YtmnkhcefdpcheaaDoorShVal
namespace Go.Proofs.YtmnkhcefdpcheaaDoor.Sh
open Go.RowKit Go.PlainAid
set_option linter.unusedVariables false

theorem none_strs (w : World) : StrsAt w (.slice none 0 0) [] := ⟨none, 0, rfl, by simp⟩
theorem one_strs (w : World) (s : ByteArray) : StrsAt (w.alloc (.cells #[.string s] 9)) (.slice (some ⟨w.heap.size, 0, none⟩) 1 1) [s] := by
  refine ⟨some ⟨w.heap.size, 0, none⟩, 1, rfl, ?_⟩
  intro j t ht
  refine ⟨_, rfl, by simp, ?_⟩
  rw [add_addr, cell_of_row _ _ _ _ _ _ (heap_alloc_new w _)]
  rcases j with _ | j
  · simp at ht; subst ht; rfl
  · simp at ht
theorem two_strs (w : World) (s t : ByteArray) : StrsAt (w.alloc (.cells #[.string s, .string t] 9)) (.slice (some ⟨w.heap.size, 0, none⟩) 2 2) [s, t] := by
  refine ⟨some ⟨w.heap.size, 0, none⟩, 2, rfl, ?_⟩
  intro j u hu
  refine ⟨_, rfl, by simp, ?_⟩
  rw [add_addr, cell_of_row _ _ _ _ _ _ (heap_alloc_new w _)]
  rcases j with _ | _ | j
  · simp at hu; subst hu; rfl
  · simp at hu; subst hu; rfl
  · simp at hu
/-- a digest laid into a variable of the call's own -/
theorem keep_dig (w : World) (d : List Nat) (hd : d.length = 32) : ∃ X, Stores Tryd.prog (w.alloc (.cells #[.int .u8 0, .int .u8 0, .int .u8 0, .int .u8 0, .int .u8 0, .int .u8 0, .int .u8 0, .int .u8 0, .int .u8 0, .int .u8 0, .int .u8 0, .int .u8 0, .int .u8 0, .int .u8 0, .int .u8 0, .int .u8 0, .int .u8 0, .int .u8 0, .int .u8 0, .int .u8 0, .int .u8 0, .int .u8 0, .int .u8 0, .int .u8 0, .int .u8 0, .int .u8 0, .int .u8 0, .int .u8 0, .int .u8 0, .int .u8 0, .int .u8 0, .int .u8 0] 23)) 23 w.heap.size 0 (vals .u8 d).toArray X ∧ Blk X w.heap.size .u8 23 d ∧ Below w.heap.size w X ∧ X.heap.size = w.heap.size + 1 := by
  rw [← zeros32]
  refine ⟨_, (Blk.new w .u8 23 (List.replicate 32 0)).stores (by rw [hd]; kernel_rfl) (by rw [hd]; simp), (Blk.new w _ _ _).row _, below_row ((Below.refl _ _).alloc (Nat.le_refl _) _) (Nat.le_refl _), by simp⟩
theorem Tabs.alloc {w : World} (h : Tabs w) (o : Obj) : Tabs (w.alloc o) := ⟨h.start.alloc _, h.keys.alloc _⟩

end Go.Proofs.YtmnkhcefdpcheaaDoor.Sh
