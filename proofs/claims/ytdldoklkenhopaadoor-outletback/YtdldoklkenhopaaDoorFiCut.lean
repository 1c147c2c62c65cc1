/-
  Contracts of the library's Cut, CutSuffix and Contains at one byte, and of Clone.
-/
import Derived.Test.YtdldoklkenhopaaDoorFiMem
import Derived.Lib.BufferWrite
namespace Go.Proofs.YtdldoklkenhopaaDoor.Fi
open Go.RowKit Go.PlainAid
open Hx
set_option linter.unusedVariables false
set_option maxRecDepth 20000
set_option linter.unusedSimpArgs false

theorem first_is (s : ByteArray) (j : Nat) (b : UInt8) (h : j < s.size) : (s[j]! == b) = decide ((ls s)[j]? = some b) := by
  rw [getElem!_pos s j h]
  have e : (ls s)[j]? = some s[j] := by
    have h2 : j < (ls s).length := by rw [ls_len]; exact h
    rw [List.getElem?_eq_getElem h2]; rfl
  rw [e]
  by_cases c : s[j] = b
  · rw [c]; simp
  · rw [beq_eq_false_iff_ne.2 c, decide_eq_false]; exact fun x => c (Option.some.inj x)
theorem cutB_at {b : UInt8} {l : List UInt8} {i : Nat} (hi : l[i]? = some b) (hn : ∀ j, j < i → l[j]? ≠ some b) : cutB b l = some (l.take i, l.drop (i + 1)) := by
  have hlt := (List.getElem?_eq_some_iff.1 hi).1
  have e : l = l.take i ++ b :: l.drop (i + 1) := by
    have : l.drop i = b :: l.drop (i + 1) := by
      rw [List.drop_eq_getElem_cons hlt]
      congr 1
      exact Option.some.inj ((List.getElem?_eq_getElem hlt).symm.trans hi)
    rw [← this, List.take_append_drop]
  have hm : b ∉ l.take i := by
    intro hmem
    obtain ⟨j, hj, e2⟩ := List.getElem_of_mem hmem
    rw [List.length_take] at hj
    refine hn j (by omega) ?_
    rw [List.getElem_take] at e2
    rw [← e2]
    exact List.getElem?_eq_getElem (by omega)
  have := cutB_of (y := l.drop (i + 1)) hm
  rwa [← e] at this
/-- where the first byte b stands -/
theorem idx_cases (s : ByteArray) (b : UInt8) : (firstIdx s b = -1 ∧ cutB b (ls s) = none) ∨ ∃ i : Nat, firstIdx s b = i ∧ i < s.size ∧ cutB b (ls s) = some ((ls s).take i, (ls s).drop (i + 1)) := by
  unfold firstIdx
  cases h : (List.range s.size).find? (fun i => s[i]! == b) with
  | none =>
    left
    refine ⟨rfl, cutB_none.2 fun hm => ?_⟩
    obtain ⟨j, hj, e⟩ := List.getElem_of_mem hm
    rw [ls_len] at hj
    have := List.find?_range_eq_none.1 h j hj
    rw [first_is s j b hj] at this
    have e2 : (ls s)[j]? = some b := by rw [← e]; exact List.getElem?_eq_getElem _
    simp [e2] at this
  | some i =>
    right
    obtain ⟨h1, h2, h3⟩ := List.find?_range_eq_some.1 h
    have hi : i < s.size := by simpa using h2
    rw [first_is s i b hi] at h1
    refine ⟨i, rfl, hi, cutB_at (by simpa using h1) fun j hj e => ?_⟩
    have := h3 j hj
    rw [first_is s j b (by omega)] at this
    simp [e] at this
set_option maxRecDepth 100000 in
theorem index_any (s : ByteArray) (b : UInt8) (w : World) (h : s.size ≤ 1099511627776) :
    Calls Tryd.prog 52 #[.string s, .string ⟨#[b]⟩] w fun e w' => e = .returned (.int .i64 (firstIdx s b)) ∧ w = w' := by
  have r := lowIndex_any s (b.toNat : Int) w
  have eb : ((b.toNat : Int)).toNat.toUInt8 = b := by simp
  rw [eb] at r
  clear eb
  cases c : ([b] == s.toList) with
  | true =>
    have e : s = ⟨#[b]⟩ := by
      rw [ByteArray.toList_eq, beq_iff_eq] at c
      cases s with | mk d => congr 1; apply Array.toList_inj.1; rw [← c]
    rw [e]
    rw [show firstIdx ⟨#[b]⟩ b = 0 by
      rcases idx_cases ⟨#[b]⟩ b with ⟨_, h2⟩ | ⟨i, h1, h2, _⟩
      · exact absurd (cutB_none.1 h2) (by simp [ls])
      · have : i = 0 := by have : (⟨#[b]⟩ : ByteArray).size = 1 := rfl
                           omega
        rw [h1, this]; rfl]
    clear r c e
    go_enter Tryd.func52, Tryd.ntmps52
    go_wp2
    all_goals go_ret
    all_goals exact ⟨rfl, rfl⟩
  | false =>
  generalize firstIdx s b = z at *
  go_enter Tryd.func52, Tryd.ntmps52
  go_wp2_with fail
  refine r.mono ?_
  rintro e w' ⟨rfl, rfl⟩
  clear r
  go_wp2
  all_goals go_ret
  all_goals exact ⟨rfl, rfl⟩
theorem lite_no (s : ByteArray) (b : UInt8) (w : World) (h : s.size ≤ 1099511627776) (hi : firstIdx s b = -1) :
    Calls Tryd.prog 41 #[.string s, .string ⟨#[b]⟩] w fun e w' => e = .returned (.tuple #[.string s, .string ⟨#[]⟩, .bool false]) ∧ Below w.heap.size w w' := by
  have r := index_any s b w h
  rw [hi] at r
  go_enter Tryd.func41, Tryd.ntmps41
  go_wp2_with fail
  refine r.mono ?_
  rintro e w' ⟨rfl, rfl⟩
  clear r
  go_wp2
  all_goals go_ret3
  all_goals exact ⟨rfl, Below.refl _ _⟩
theorem lite_yes (s : ByteArray) (b : UInt8) (w : World) (h : s.size ≤ 1099511627776) (i : Nat) (hi : firstIdx s b = i) (hs : i < s.size) :
    Calls Tryd.prog 41 #[.string s, .string ⟨#[b]⟩] w fun e w' => e = .returned (.tuple #[.string (s.extract 0 i), .string (s.extract (i + 1) s.size), .bool true]) ∧ Below w.heap.size w w' := by
  have r := index_any s b w h
  rw [hi] at r
  have i1 : (i : Int) ≤ (s.size : Int) := by omega
  have i2 : (i : Int) + 1 ≤ (s.size : Int) := by omega
  go_enter Tryd.func41, Tryd.ntmps41
  go_wp2_with fail
  refine r.mono ?_
  rintro e w' ⟨rfl, rfl⟩
  clear r
  go_wp2
  go_region
  all_goals go_wp2
  all_goals go_ret3
  all_goals exact ⟨rfl, (Below.refl _ _).drew⟩
theorem cut_no (s : ByteArray) (b : UInt8) (w : World) (h : s.size ≤ 1099511627776) (hc : cutB b (ls s) = none) :
    Calls Tryd.prog 24 #[.string s, .string ⟨#[b]⟩] w fun e w' => e = .returned (.tuple #[.string s, .string ⟨#[]⟩, .bool false]) ∧ Below w.heap.size w w' := by
  have hi : firstIdx s b = -1 := by
    rcases idx_cases s b with ⟨h1, _⟩ | ⟨i, _, _, h3⟩
    · exact h1
    · rw [hc] at h3; cases h3
  clear hc
  go_enter Tryd.func24, Tryd.ntmps24
  go_wp2_with fail
  refine (lite_no s b w h hi).mono ?_
  rintro e w' ⟨rfl, hb⟩
  clear hi
  go_wp2
  all_goals go_ret3
  all_goals exact ⟨rfl, hb⟩
theorem cut_yes (s : ByteArray) (b : UInt8) (w : World) (h : s.size ≤ 1099511627776) {x y : List UInt8} (hc : cutB b (ls s) = some (x, y)) :
    Calls Tryd.prog 24 #[.string s, .string ⟨#[b]⟩] w fun e w' => e = .returned (.tuple #[.string (tx x), .string (tx y), .bool true]) ∧ Below w.heap.size w w' := by
  obtain ⟨i, hi, hs, h3⟩ : ∃ i : Nat, firstIdx s b = i ∧ i < s.size ∧ cutB b (ls s) = some ((ls s).take i, (ls s).drop (i + 1)) := by
    rcases idx_cases s b with ⟨_, h1⟩ | h1
    · rw [hc] at h1; cases h1
    · exact h1
  rw [hc] at h3
  simp only [Option.some.injEq, Prod.mk.injEq] at h3
  have e1 : s.extract 0 i = tx x := ls_inj (by rw [ls_extract, ls_tx, h3.1]; simp)
  have e2 : s.extract (i + 1) s.size = tx y := ls_inj (by rw [ls_extract, ls_tx, h3.2]; exact List.take_of_length_le (by rw [List.length_drop, ls_len]; exact Nat.le_refl _))
  have r := lite_yes s b w h i hi hs
  rw [e1, e2] at r
  clear e1 e2 h3 hc hi hs
  generalize tx x = x1 at *
  generalize tx y = y1 at *
  go_enter Tryd.func24, Tryd.ntmps24
  go_wp2_with fail
  refine r.mono ?_
  rintro e w' ⟨rfl, hb⟩
  clear r
  go_wp2
  all_goals go_ret3
  all_goals exact ⟨rfl, hb⟩
end Go.Proofs.YtdldoklkenhopaaDoor.Fi
