/-
  Contract of the library's strings.Cut at a point: what stands ahead of the first point, and behind it.
-/
import Derived.Test.YtmfhokbognlhbaaRlText
import Derived.Deep.DeepCutAuto
namespace Go.Proofs.Ytmfhokbognlhbaa.Rl
open Go.RowKit Go.PlainAid
open Hx
set_option linter.unusedVariables false

theorem run_index (s : ByteArray) (c : Int) (w : World) : (callFunc 60 #[.string s, .int .u8 c]).run Try.prog w = .ok (.value (.int .i64 (firstIdx s c.toNat.toUInt8))) w := by
  rw [run_callFunc_extern (e := Extern.BytealgIndexByte.indexByte) Try.func60 (by kernel_rfl) (by kernel_rfl) (by kernel_rfl) (by kernel_rfl), run_indexByte_string]
  rfl

theorem u8_bt (s : ByteArray) (j : Nat) (h : j < s.size) : (s[j]! == (46 : UInt8)) = decide (bt s j = 46) := by
  rw [bt_get s j h, getElem!_pos s j h]
  by_cases e : s[j] = 46
  · rw [e]; rfl
  · have : ((s[j].toNat : Int) ≠ 46) := fun h' => e (UInt8.toNat_inj.1 (by have : s[j].toNat = 46 := by omega
                                                                           rw [this]; rfl))
    rw [decide_eq_false this, beq_eq_false_iff_ne]; exact e
/-- where the first point stands -/
theorem idx_cases (s : ByteArray) : (firstIdx s 46 = -1 ∧ ∀ j, j < s.size → bt s j ≠ 46) ∨ ∃ i : Nat, firstIdx s 46 = i ∧ i < s.size ∧ bt s i = 46 ∧ ∀ j, j < i → bt s j ≠ 46 := by
  unfold firstIdx
  cases h : (List.range s.size).find? (fun i => s[i]! == (46 : UInt8)) with
  | none =>
    left
    refine ⟨rfl, fun j hj => ?_⟩
    have := List.find?_range_eq_none.1 h j hj
    rw [u8_bt s j hj] at this
    simpa using this
  | some i =>
    right
    obtain ⟨h1, h2, h3⟩ := List.find?_range_eq_some.1 h
    have hi : i < s.size := by simpa using h2
    rw [u8_bt s i hi] at h1
    refine ⟨i, rfl, hi, by simpa using h1, fun j hj => ?_⟩
    have := h3 j hj
    rw [u8_bt s j (by omega)] at this
    simpa using this

theorem byte_any (s : ByteArray) (w : World) :
    Calls Try.prog 56 #[.string s, .int .u8 46] w fun e w' => e = .returned (.int .i64 (firstIdx s 46)) ∧ w = w' := by
  have r := run_index s 46
  rw [show (46 : Int).toNat.toUInt8 = 46 by decide] at r
  go_enter Try.func56, Try.ntmps56
  go_wp2
  all_goals go_ret
  all_goals exact ⟨rfl, rfl⟩
set_option maxRecDepth 100000 in
theorem index_any (s : ByteArray) (w : World) (h : s.size ≤ 1099511627776) :
    Calls Try.prog 55 #[.string s, .string ⟨#[46]⟩] w fun e w' => e = .returned (.int .i64 (firstIdx s 46)) ∧ w = w' := by
  have b := byte_any s w
  cases c : ([46] == s.toList) with
  | true =>
    have e : s = ⟨#[46]⟩ := by
      rw [ByteArray.toList_eq, beq_iff_eq] at c
      cases s with | mk d => congr 1; apply Array.toList_inj.1; rw [← c]
    rw [e]
    rw [show firstIdx ⟨#[46]⟩ 46 = 0 by decide]
    clear b c e
    go_enter Try.func55, Try.ntmps55
    go_wp2
    all_goals go_ret
    all_goals exact ⟨rfl, rfl⟩
  | false =>
  generalize firstIdx s 46 = z at *
  go_enter Try.func55, Try.ntmps55
  go_wp2_with fail
  refine b.mono ?_
  rintro e w' ⟨rfl, rfl⟩
  clear b
  go_wp2
  all_goals go_ret
  all_goals exact ⟨rfl, rfl⟩
theorem lite_miss (s : ByteArray) (w : World) (h : s.size ≤ 1099511627776) (hi : firstIdx s 46 = -1) :
    Calls Try.prog 50 #[.string s, .string ⟨#[46]⟩] w fun e w' => e = .returned (.tuple #[.string s, .string ⟨#[]⟩, .bool false]) ∧ Below w.heap.size w w' := by
  have b := index_any s w h
  rw [hi] at b
  go_enter Try.func50, Try.ntmps50
  go_wp2_with fail
  refine b.mono ?_
  rintro e w' ⟨rfl, rfl⟩
  clear b
  go_wp2
  all_goals go_ret3
  all_goals exact ⟨rfl, Below.refl _ _⟩
theorem lite_hit (s : ByteArray) (w : World) (h : s.size ≤ 1099511627776) (i : Nat) (hi : firstIdx s 46 = i) (hs : i < s.size) :
    Calls Try.prog 50 #[.string s, .string ⟨#[46]⟩] w fun e w' => e = .returned (.tuple #[.string (s.extract 0 i), .string (s.extract (i + 1) s.size), .bool true]) ∧ Below w.heap.size w w' := by
  have b := index_any s w h
  rw [hi] at b
  have i1 : (i : Int) ≤ (s.size : Int) := by omega
  have i2 : (i : Int) + 1 ≤ (s.size : Int) := by omega
  go_enter Try.func50, Try.ntmps50
  go_wp2_with fail
  refine b.mono ?_
  rintro e w' ⟨rfl, rfl⟩
  clear b
  go_wp2
  go_region
  all_goals go_wp2
  all_goals go_ret3
  all_goals exact ⟨rfl, (Below.refl _ _).drew⟩
theorem cut_miss (s : ByteArray) (w : World) (h : s.size ≤ 1099511627776) (hi : firstIdx s 46 = -1) :
    Calls Try.prog 43 #[.string s, .string ⟨#[46]⟩] w fun e w' => e = .returned (.tuple #[.string s, .string ⟨#[]⟩, .bool false]) ∧ Below w.heap.size w w' := by
  go_enter Try.func43, Try.ntmps43
  go_wp2_with fail
  refine (lite_miss s w h hi).mono ?_
  rintro e w' ⟨rfl, hb⟩
  go_wp2
  all_goals go_ret3
  all_goals exact ⟨rfl, hb⟩
theorem cut_hit (s : ByteArray) (w : World) (h : s.size ≤ 1099511627776) (i : Nat) (hi : firstIdx s 46 = i) (hs : i < s.size) :
    Calls Try.prog 43 #[.string s, .string ⟨#[46]⟩] w fun e w' => e = .returned (.tuple #[.string (s.extract 0 i), .string (s.extract (i + 1) s.size), .bool true]) ∧ Below w.heap.size w w' := by
  go_enter Try.func43, Try.ntmps43
  go_wp2_with fail
  refine (lite_hit s w h i hi hs).mono ?_
  rintro e w' ⟨rfl, hb⟩
  go_wp2
  all_goals go_ret3
  all_goals exact ⟨rfl, hb⟩
end Go.Proofs.Ytmfhokbognlhbaa.Rl
