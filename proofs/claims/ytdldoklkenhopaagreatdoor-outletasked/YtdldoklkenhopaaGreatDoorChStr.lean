/-
  Contracts of the library's CutSuffix and HasPrefix at the end of a line.
-/
import Derived.Test.YtdldoklkenhopaaGreatDoorSet2
namespace Go.Proofs.YtdldoklkenhopaaGreatDoor.Ch
open Go.RowKit Go.PlainAid
open Hx Fi
set_option linter.unusedVariables false
set_option maxRecDepth 20000
set_option linter.unusedSimpArgs false

theorem hasEnd_few (s : ByteArray) (w : World) (h : s.size < 2) :
    Calls Tryz.prog 107 #[.string s, .string ⟨#[13, 10]⟩] w fun e w' => e = .returned (.bool false) ∧ w = w' := by
  have i1 : (s.size : Int) < 2 := by omega
  clear h
  go_enter Tryz.func107, Tryz.ntmps107
  go_wp2
  all_goals go_ret
  all_goals exact ⟨rfl, rfl⟩
theorem hasEnd_some (s : ByteArray) (n : Nat) (v : Bool) (w : World) (h : s.size = n + 2) (hs : s.size ≤ 1099511627776) (hv : ((s.extract n s.size).toList == [13, 10]) = v) :
    Calls Tryz.prog 107 #[.string s, .string ⟨#[13, 10]⟩] w fun e w' => e = .returned (.bool v) ∧ w = w' := by
  have i1 : (s.size : Int) - 2 = (n : Int) := by omega
  have i2 : (n : Int) ≤ (s.size : Int) := by omega
  have i3 : (2 : Int) ≤ (s.size : Int) := by omega
  clear h
  go_enter Tryz.func107, Tryz.ntmps107
  go_wp2
  all_goals go_ret
  all_goals exact ⟨rfl, rfl⟩
theorem last_two {s : ByteArray} {n : Nat} (h : s.size = n + 2) : ls (s.extract n s.size) = (ls s).drop n := by
  rw [ls_extract]
  exact List.take_of_length_le (by rw [List.length_drop, ls_len]; omega)
theorem end_yes (s : ByteArray) (x : List UInt8) (w : World) (hs : s.size ≤ 1099511627776) (h : ls s = x ++ [13, 10]) :
    Calls Tryz.prog 79 #[.string s, .string ⟨#[13, 10]⟩] w fun e w' => e = .returned (.tuple #[.string (tx x), .bool true]) ∧ w = w' := by
  have hz : s.size = x.length + 2 := by rw [← ls_len, h]; simp
  have e1 : s.extract 0 x.length = tx x := ls_inj (by rw [ls_extract, ls_tx, h]; simp)
  have r := hasEnd_some s x.length true w hz hs (by rw [ls_toList, last_two hz, h]; simp)
  have i1 : (s.size : Int) - 2 = (x.length : Int) := by omega
  have i2 : (x.length : Int) ≤ (s.size : Int) := by omega
  have E1 := Lib.hid e1
  clear h hz e1
  have low : Calls Tryz.prog 91 #[.string s, .string ⟨#[13, 10]⟩] w fun e w' => e = .returned (.tuple #[.string (tx x), .bool true]) ∧ w = w' := by
    go_enter Tryz.func91, Tryz.ntmps91
    go_wp2_with fail
    refine r.mono ?_
    rintro e w' ⟨rfl, rfl⟩
    clear r
    go_wp2
    go_ret2
    exact ⟨by rw [← E1.out]; rfl, rfl⟩
  clear r i1 i2
  generalize tx x = x1 at *
  go_enter Tryz.func79, Tryz.ntmps79
  go_wp2_with fail
  refine low.mono ?_
  rintro e w' ⟨rfl, rfl⟩
  clear low
  go_wp2
  go_ret2
  exact ⟨rfl, rfl⟩
theorem end_no (s : ByteArray) (w : World) (hs : s.size ≤ 1099511627776) (h : ∀ x, ls s ≠ x ++ [13, 10]) :
    Calls Tryz.prog 79 #[.string s, .string ⟨#[13, 10]⟩] w fun e w' => e = .returned (.tuple #[.string s, .bool false]) ∧ w = w' := by
  have r : Calls Tryz.prog 107 #[.string s, .string ⟨#[13, 10]⟩] w fun e w' => e = .returned (.bool false) ∧ w = w' := by
    by_cases h0 : s.size < 2
    · exact hasEnd_few s w h0
    · obtain ⟨n, hn⟩ : ∃ n, s.size = n + 2 := ⟨s.size - 2, by omega⟩
      refine hasEnd_some s n false w hn hs ?_
      rw [ls_toList, last_two hn, beq_eq_false_iff_ne]
      intro e
      apply h ((ls s).take n)
      rw [← e, List.take_append_drop]
  clear h
  have low : Calls Tryz.prog 91 #[.string s, .string ⟨#[13, 10]⟩] w fun e w' => e = .returned (.tuple #[.string s, .bool false]) ∧ w = w' := by
    go_enter Tryz.func91, Tryz.ntmps91
    go_wp2_with fail
    refine r.mono ?_
    rintro e w' ⟨rfl, rfl⟩
    clear r
    go_wp2
    go_ret2
    exact ⟨rfl, rfl⟩
  clear r
  go_enter Tryz.func79, Tryz.ntmps79
  go_wp2_with fail
  refine low.mono ?_
  rintro e w' ⟨rfl, rfl⟩
  clear low
  go_wp2
  go_ret2
  exact ⟨rfl, rfl⟩
/-- the end of a line has a text of one or two bytes as its beginning -/
theorem hasPre_one (c : UInt8) (w : World) :
    Calls Tryz.prog 78 #[.string ⟨#[13, 10]⟩, .string (tx [c])] w fun e w' => e = .returned (.bool (c == 13)) ∧ w = w' := by
  have hz : (tx [c]).size = 1 := rfl
  have ht : (((⟨#[13, 10]⟩ : ByteArray).extract 0 1).toList == (tx [c]).toList) = (c == 13) := by
    rw [show (⟨#[13, 10]⟩ : ByteArray).extract 0 1 = ⟨#[13]⟩ by decide, ls_toList, ls_toList, ls_tx, Bool.eq_iff_iff]; simp [ls]; exact eq_comm
  generalize tx [c] = t at *
  have low : Calls Tryz.prog 85 #[.string ⟨#[13, 10]⟩, .string t] w fun e w' => e = .returned (.bool (c == 13)) ∧ w = w' := by
    generalize (c == 13) = v at *
    go_enter Tryz.func85, Tryz.ntmps85
    go_wp2
    all_goals go_ret
    all_goals exact ⟨rfl, rfl⟩
  clear hz ht
  generalize (c == 13) = v at *
  go_enter Tryz.func78, Tryz.ntmps78
  go_wp2_with fail
  refine low.mono ?_
  rintro e w' ⟨rfl, rfl⟩
  clear low
  go_wp2
  go_ret
  exact ⟨rfl, rfl⟩
theorem hasPre_two (c : UInt8) (hc : c ≠ 10) (w : World) :
    Calls Tryz.prog 78 #[.string ⟨#[13, 10]⟩, .string (tx [13, c])] w fun e w' => e = .returned (.bool false) ∧ w = w' := by
  have hz : (tx [13, c]).size = 2 := rfl
  have ht : (((⟨#[13, 10]⟩ : ByteArray).extract 0 2).toList == (tx [13, c]).toList) = false := by
    rw [show (⟨#[13, 10]⟩ : ByteArray).extract 0 2 = ⟨#[13, 10]⟩ by decide, ls_toList, ls_toList, ls_tx, beq_eq_false_iff_ne]; intro e; simp [ls] at e; exact hc e.symm
  generalize tx [13, c] = t at *
  have low : Calls Tryz.prog 85 #[.string ⟨#[13, 10]⟩, .string t] w fun e w' => e = .returned (.bool false) ∧ w = w' := by
    go_enter Tryz.func85, Tryz.ntmps85
    go_wp2
    all_goals go_ret
    all_goals exact ⟨rfl, rfl⟩
  clear hz ht
  go_enter Tryz.func78, Tryz.ntmps78
  go_wp2_with fail
  refine low.mono ?_
  rintro e w' ⟨rfl, rfl⟩
  clear low
  go_wp2
  go_ret
  exact ⟨rfl, rfl⟩
end Go.Proofs.YtdldoklkenhopaaGreatDoor.Ch
