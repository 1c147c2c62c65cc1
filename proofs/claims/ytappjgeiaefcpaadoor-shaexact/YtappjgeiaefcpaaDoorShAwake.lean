/-
  The document's examples of layer 2: awake answers true.
-/
import Derived.Test.YtappjgeiaefcpaaDoorShVal
namespace Go.Proofs.YtappjgeiaefcpaaDoor.Sh
open Go.RowKit Go.PlainAid
set_option linter.unusedVariables false

theorem none_strs (w : World) : StrsAt w (.slice none 0 0) [] := ⟨none, 0, rfl, by simp⟩
theorem one_strs (w : World) (s : ByteArray) : StrsAt (w.alloc (.cells #[.string s] 9)) (.slice (some ⟨w.heap.size, 0, none⟩) 1 1) [s] := by
  refine ⟨some ⟨w.heap.size, 0, none⟩, 1, rfl, ?_⟩
  intro j t ht
  refine ⟨_, rfl, by simp, ?_⟩
  rw [add_addr, cell_of_row _ _ _ _ _ _ (heap_alloc_new w _)]
  rcases j with _ | j
  · simp at ht; subst ht; rfl
  · simp at ht
theorem two_strs (w : World) (s t : ByteArray) : StrsAt (w.alloc (.cells #[.string s, .string t] 9)) (.slice (some ⟨w.heap.size, 0, none⟩) 2 2) [s, t] := by
  refine ⟨some ⟨w.heap.size, 0, none⟩, 2, rfl, ?_⟩
  intro j u hu
  refine ⟨_, rfl, by simp, ?_⟩
  rw [add_addr, cell_of_row _ _ _ _ _ _ (heap_alloc_new w _)]
  rcases j with _ | _ | j
  · simp at hu; subst hu; rfl
  · simp at hu; subst hu; rfl
  · simp at hu
/-- a digest laid into a variable of the call's own -/
theorem keep_dig (w : World) (d : List Nat) (hd : d.length = 32) : ∃ X, Stores Tryd.prog (w.alloc (.cells #[.int .u8 0, .int .u8 0, .int .u8 0, .int .u8 0, .int .u8 0, .int .u8 0, .int .u8 0, .int .u8 0, .int .u8 0, .int .u8 0, .int .u8 0, .int .u8 0, .int .u8 0, .int .u8 0, .int .u8 0, .int .u8 0, .int .u8 0, .int .u8 0, .int .u8 0, .int .u8 0, .int .u8 0, .int .u8 0, .int .u8 0, .int .u8 0, .int .u8 0, .int .u8 0, .int .u8 0, .int .u8 0, .int .u8 0, .int .u8 0, .int .u8 0, .int .u8 0] 28)) 28 w.heap.size 0 (vals .u8 d).toArray X ∧ Blk X w.heap.size .u8 28 d ∧ Below w.heap.size w X ∧ X.heap.size = w.heap.size + 1 := by
  rw [← zeros32]
  refine ⟨_, (Blk.new w .u8 28 (List.replicate 32 0)).stores (by rw [hd]; kernel_rfl) (by rw [hd]; simp), (Blk.new w _ _ _).row _, below_row ((Below.refl _ _).alloc (Nat.le_refl _) _) (Nat.le_refl _), by simp⟩
theorem Tabs.alloc {w : World} (h : Tabs w) (o : Obj) : Tabs (w.alloc o) := ⟨h.start.alloc _, h.keys.alloc _⟩

set_option maxRecDepth 100000 in
set_option maxHeartbeats 4000000 in
theorem awake_any (w : World) (ht : Tabs w) : Calls Tryd.prog 6 #[] w fun e w' => e = .returned (.bool true) ∧ Below w.heap.size w w' := by
  have HT := Lib.hid ht
  have t1 := ht.keys.lt
  clear ht
  go_enter Tryd.func6, Tryd.ntmps6
  go_wp2_with fail
  refine (of_any (one_strs _ _) (HT.out.alloc _) (by decide) (by decide)).mono ?_
  rintro e w1 ⟨rfl, hb1⟩
  rw [show allB [⟨#[97, 98, 99]⟩] = [97, 98, 99] by decide, val_abc]
  have F1 : Below w.heap.size w w1 := ((Below.refl _ _).alloc (Nat.le_refl _) _).trans (hb1.mono (by simp))
  clear hb1
  obtain ⟨X, S1, D1, F2, Z2⟩ := keep_dig w1 [186, 120, 22, 191, 143, 1, 207, 234, 65, 65, 64, 222, 93, 174, 34, 35, 176, 3, 97, 163, 150, 23, 122, 156, 180, 16, 255, 97, 242, 0, 21, 173] (by decide)
  go_upto_region 2 with (refine wpl_store S1 rfl rfl rfl rfl rfl ?_)
  clear S1
  have F3 := F1.trans (F2.mono F1.size)
  go_wp2_with fail
  refine (of_any (none_strs _) (HT.out.below F3 t1) (by decide) (by decide)).mono ?_
  rintro e w2 ⟨rfl, hb2⟩
  rw [show allB [] = [] by decide, val_none]
  have F4 := F3.trans (hb2.mono F3.size)
  have D2 := D1.below hb2 D1.lt
  clear hb2 D1 F2 Z2
  obtain ⟨Y, S2, D3, F5, Z3⟩ := keep_dig w2 [227, 176, 196, 66, 152, 252, 28, 20, 154, 251, 244, 200, 153, 111, 185, 36, 39, 174, 65, 228, 100, 155, 147, 76, 164, 149, 153, 27, 120, 82, 184, 85] (by decide)
  have D4 := D2.below F5 D2.lt
  have F6 := F4.trans (F5.mono F4.size)
  go_upto_region 3 with (refine wpl_store S2 rfl rfl rfl rfl rfl ?_)
  clear S2
  have c0 : Y.cell? ⟨w1.heap.size, 0, none⟩ = some (.int .u8 186) := D4.cell (j := 0) (by decide)
  have c1 : Y.cell? ⟨w1.heap.size, 1, none⟩ = some (.int .u8 120) := D4.cell (j := 1) (by decide)
  have c2 : Y.cell? ⟨w1.heap.size, 2, none⟩ = some (.int .u8 22) := D4.cell (j := 2) (by decide)
  have c3 : Y.cell? ⟨w1.heap.size, 3, none⟩ = some (.int .u8 191) := D4.cell (j := 3) (by decide)
  have c4 : Y.cell? ⟨w1.heap.size, 31, none⟩ = some (.int .u8 173) := D4.cell (j := 31) (by decide)
  have e0 : Y.cell? ⟨w2.heap.size, 0, none⟩ = some (.int .u8 227) := D3.cell (j := 0) (by decide)
  have e1 : Y.cell? ⟨w2.heap.size, 1, none⟩ = some (.int .u8 176) := D3.cell (j := 1) (by decide)
  have e2 : Y.cell? ⟨w2.heap.size, 31, none⟩ = some (.int .u8 85) := D3.cell (j := 31) (by decide)
  go_wp2
  go_ret
  exact ⟨rfl, F6⟩
end Go.Proofs.YtappjgeiaefcpaaDoor.Sh
