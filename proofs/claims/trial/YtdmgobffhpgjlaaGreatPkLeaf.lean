/-
  Contracts of the smallest functions of package plank: New, areNames, Off, fail, begin, find, reach, Ops, Down.
-/
import Derived.Test.YtdmgobffhpgjlaaGreatPkMem
import Derived.Great.BuildSlice
import Derived.PlainAid
import Derived.StillTailTactics
import Derived.BigQuiet

namespace Go.Proofs.YtdmgobffhpgjlaaGreat.Pk
open Go.RowKit Go.PlainAid Go.Maps
set_option linter.unusedVariables false
set_option maxRecDepth 20000
set_option linter.unusedSimpArgs false

theorem kname : Keyed Tryz.prog 9 := string_keyed Tryz.underlying9
def kl (s : ByteArray) : Bs := s.data.toList
theorem kl_len (s : ByteArray) : (kl s).length = s.size := by simp [kl]
theorem keyN {s : ByteArray} (h : s.size ≤ 9223372036854775807) : keyOf Tryz.prog 9 (.string s) = some (.string (kl s)) := WideMaps.keyOf_string_mk Tryz.underlying9 (by unfold maxLen; exact h)

set_option maxHeartbeats 1000000 in
theorem new_any (room : Int) (w : World) :
    Calls Tryz.prog 5 #[.int .i64 room] w fun e w' => e = .returned (.pointer (some ⟨w.heap.size + 1, 0, none⟩)) ∧ w' = (w.alloc (.map #[] 0)).alloc (.cells (headV w.heap.size (Dk.new room)) 74) := by
  have hmm := @run_makeMap Tryz.prog
  go_enter Tryz.func5, Tryz.ntmps5
  go_wp2
  all_goals go_ret
  all_goals refine ⟨rfl, ?_⟩
  · rw [headV, Dk.new, show min (max room 0) 4194304 = 0 by omega]
  · rw [headV, Dk.new, show min (max room 0) 4194304 = 4194304 by omega]
  · rw [headV, Dk.new, show min (max room 0) 4194304 = room by omega]

structure StrsAt (w : World) (v : Value) (ss : List ByteArray) : Prop where
  is : ∃ base cap, v = .slice base ss.length cap ∧ ∀ j s, ss[j]? = some s → ∃ a : Addr, base = some a ∧ a.block < w.heap.size ∧ w.cell? (a.add j) = some (.string s)

theorem isName_empty {s : ByteArray} (h : s.toList = []) : isName (kl s) = false := by
  rw [ByteArray.toList_eq] at h
  simp [isName, kl, h]
theorem isName_long {s : ByteArray} (h : 80 < (s.size : Int)) : isName (kl s) = false := by
  have := kl_len s
  simp [isName]
  omega
theorem isName_good {s : ByteArray} (h : ¬ s.toList = []) (h' : (s.size : Int) ≤ 80) : isName (kl s) = true := by
  have e := kl_len s
  rw [ByteArray.toList_eq] at h
  simp [isName]
  refine ⟨?_, by omega⟩
  rcases hc : kl s with _ | ⟨c, l⟩
  · exact absurd hc h
  · simp
theorem all_false {ss : List ByteArray} {k : Nat} {s : ByteArray} (hs : ss[k]? = some s) (h : isName (kl s) = false) : (ss.all fun s => isName (kl s)) = false := by
  rw [List.all_eq_false]
  exact ⟨s, List.mem_of_getElem? hs, by simp [h]⟩
set_option maxHeartbeats 1000000 in
theorem names_any {w : World} {v : Value} {ss : List ByteArray} (hv : StrsAt w v ss) (hl : ss.length ≤ 1000) (hz : ∀ s ∈ ss, s.size ≤ 9223372036854775807) :
    Calls Tryz.prog 48 #[v] w fun e w' => e = .returned (.bool (ss.all fun s => isName (kl s))) ∧ w = w' := by
  obtain ⟨base, cap, rfl, hc⟩ := hv.is
  clear hv
  have HC := Lib.hid hc
  have HZ := Lib.hid hz
  clear hc hz
  go_enter Tryz.func48, Tryz.ntmps48
  go_wp2
  go_loopw [7] (fun i wr => ∃ k : Nat, k ≤ ss.length ∧ i = .int .i64 k ∧ (∀ s ∈ ss.take k, isName (kl s) = true) ∧ w = wr) (fun i _ => ss.length - (intOf i).toNat)
  case atStart => exact ⟨0, Nat.zero_le _, rfl, by simp, rfl⟩
  case round =>
    obtain ⟨k, hk, rfl, hall, rfl⟩ := hrel
    by_cases hlt : k < ss.length
    · obtain ⟨s, hs⟩ : ∃ s, ss[k]? = some s := ⟨ss[k], List.getElem?_eq_getElem hlt⟩
      obtain ⟨a, rfl, ha, hcell⟩ := HC.out k s hs
      have hx := HZ.out s (List.mem_of_getElem? hs)
      have l1 : (k : Int) < (ss.length : Int) := by omega
      go_wp2
      · go_ret
        exact ⟨by rw [all_false hs (isName_empty (by assumption))]; rfl, rfl⟩
      · rename_i c1 c2
        go_ret
        have c3 : 80 < (s.size : Int) := by
          rcases c2 with c | c
          · exact absurd (List.isEmpty_iff.1 c) c1
          · exact c
        exact ⟨by rw [all_false hs (isName_long c3)]; rfl, rfl⟩
      · rename_i c1 c2
        have c3 : (s.size : Int) ≤ 80 := by
          simp at c2
          omega
        go_roundw
        case rel =>
          refine ⟨k + 1, by omega, by go_num, ?_, trivial⟩
          intro x hy
          rw [List.take_add_one, hs] at hy
          rcases List.mem_append.1 hy with hz | hz
          · exact hall x hz
          · simp at hz
            subst hz
            exact isName_good c1 c3
        case measure => simp [intOf]; omega
    · have e : ss.take k = ss := List.take_of_length_le (by omega)
      have l1 : ¬ (k : Int) < (ss.length : Int) := by omega
      rw [e] at hall
      go_wp2
      go_ret
      refine ⟨?_, rfl⟩
      rw [List.all_eq_true.2 hall]
      rfl
theorem one_strs {w : World} {B : Nat} {s : ByteArray} {T : Nat} {fr : Nat × Nat} (h : w.heap[B]? = some (.cells #[.string s] T fr)) : StrsAt w (.slice (some ⟨B, 0, none⟩) 1 1) [s] := by
  refine ⟨some ⟨B, 0, none⟩, 1, rfl, ?_⟩
  intro j t ht
  refine ⟨_, rfl, in_heap h, ?_⟩
  rw [show (⟨B, 0, none⟩ : Addr).add j = ⟨B, j, none⟩ by unfold Addr.add; split <;> simp_all, cell_of_row _ _ _ _ _ _ h]
  rcases j with _ | j
  · simp at ht; subst ht; rfl
  · simp at ht
theorem two_strs {w : World} {B : Nat} {s t : ByteArray} {T : Nat} {fr : Nat × Nat} (h : w.heap[B]? = some (.cells #[.string s, .string t] T fr)) : StrsAt w (.slice (some ⟨B, 0, none⟩) 2 2) [s, t] := by
  refine ⟨some ⟨B, 0, none⟩, 2, rfl, ?_⟩
  intro j u ht
  refine ⟨_, rfl, in_heap h, ?_⟩
  rw [show (⟨B, 0, none⟩ : Addr).add j = ⟨B, j, none⟩ by unfold Addr.add; split <;> simp_all, cell_of_row _ _ _ _ _ _ h]
  rcases j with _ | _ | j
  · simp at ht; subst ht; rfl
  · simp at ht; subst ht; rfl
  · simp at ht
theorem name_one (w : World) {s : ByteArray} (hs : s.size ≤ 9223372036854775807) :
    Calls Tryz.prog 48 #[.slice (some ⟨w.heap.size, 0, none⟩) 1 1] (w.alloc (.cells #[.string s] 9)) fun e w' => e = .returned (.bool (isName (kl s))) ∧ w.alloc (.cells #[.string s] 9) = w' := by
  have := names_any (one_strs (heap_alloc_new w (.cells #[.string s] 9))) (by simp) (by simpa using hs)
  simpa using this
theorem name_two (w : World) {s t : ByteArray} (hs : s.size ≤ 9223372036854775807) (ht : t.size ≤ 9223372036854775807) :
    Calls Tryz.prog 48 #[.slice (some ⟨w.heap.size, 0, none⟩) 2 2] (w.alloc (.cells #[.string s, .string t] 9)) fun e w' => e = .returned (.bool (isName (kl s) && isName (kl t))) ∧ w.alloc (.cells #[.string s, .string t] 9) = w' := by
  have := names_any (two_strs (heap_alloc_new w (.cells #[.string s, .string t] 9))) (by simp) (by simpa using ⟨hs, ht⟩)
  simpa using this

/-! ### cells of the disk's struct -/
section
variable {w : World} {p m : Nat} {G : Gs} {D : Dk}
theorem DiskAt.cell (h : DiskAt w p m G D) (j : Nat) : w.cell? ⟨p, j, none⟩ = (headV m D)[j]? := cell_of_row _ _ _ _ _ _ h.head
theorem DiskAt.frozen (h : DiskAt w p m G D) (j : Nat) : w.frozen? ⟨p, j, none⟩ = false := frozen_of_row _ _ _ _ _ h.head
theorem heap_set (w : World) (B j : Nat) (v : Value) (cs : Array Value) (t : TypeId) (fr : Nat × Nat) (h : w.heap[B]? = some (.cells cs t fr)) :
    (w.setCell ⟨B, j, none⟩ v).heap[B]? = some (.cells (cs.setIfInBounds j v) t fr) := by
  simp [World.setCell, Array.getElem?_modify, h]
theorem DiskAt.set (h : DiskAt w p m G D) {D' : Dk} (hL : D'.L = D.L) (ok : D'.Ok) (j : Nat) (v : Value) (e : (headV m D).setIfInBounds j v = headV m D') : DiskAt (w.setCell ⟨p, j, none⟩ v) p m G D' ∧ Goes w (w.setCell ⟨p, j, none⟩ v) (zone p m G D.L) (zone p m G D'.L) := by
  refine ⟨h.turn hL ok ?_ fun b hb => Below.heap_setCell _ _ _ _ hb, ?_⟩
  · rw [heap_set _ _ _ _ _ _ _ h.head, e]
  · rw [hL]
    exact Goes.of_set rfl (.inl rfl)
end
end Go.Proofs.YtdmgobffhpgjlaaGreat.Pk
