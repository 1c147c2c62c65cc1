/-
  Contracts of the leaves of package field: which bytes tokens and text have, a letter made small, two names held against each other.
-/
import Derived.Test.YtdldoklkenhopaaDoorSet1
import Derived.Deep.RegionHeld3
namespace Go.Proofs.YtdldoklkenhopaaDoor.Fi
open Go.RowKit Go.PlainAid
open Hx
set_option linter.unusedVariables false
set_option maxRecDepth 20000
set_option linter.unusedSimpArgs false

/-! ### the library's IndexByte -/
theorem run_index (s : ByteArray) (c : Int) (w : World) : (callFunc 72 #[.string s, .int .u8 c]).run Tryd.prog w = .ok (.value (.int .i64 (firstIdx s c.toNat.toUInt8))) w := by
  rw [run_callFunc_extern (e := Extern.BytealgIndexByte.indexByte) Tryd.func72 (by kernel_rfl) (by kernel_rfl) (by kernel_rfl) (by kernel_rfl), run_indexByte_string]
  rfl
theorem lowIndex_any (s : ByteArray) (c : Int) (w : World) :
    Calls Tryd.prog 59 #[.string s, .int .u8 c] w fun e w' => e = .returned (.int .i64 (firstIdx s c.toNat.toUInt8)) ∧ w = w' := by
  have r := run_index s c
  generalize firstIdx s c.toNat.toUInt8 = z at *
  go_enter Tryd.func59, Tryd.ntmps59
  go_wp2
  all_goals go_ret
  all_goals exact ⟨rfl, rfl⟩
theorem indexByte_any (s : ByteArray) (c : Int) (w : World) :
    Calls Tryd.prog 54 #[.string s, .int .u8 c] w fun e w' => e = .returned (.int .i64 (firstIdx s c.toNat.toUInt8)) ∧ w = w' := by
  have r := lowIndex_any s c w
  generalize firstIdx s c.toNat.toUInt8 = z at *
  go_enter Tryd.func54, Tryd.ntmps54
  go_wp2_with fail
  refine r.mono ?_
  rintro e w' ⟨rfl, rfl⟩
  clear r
  go_wp2
  all_goals go_ret
  all_goals exact ⟨rfl, rfl⟩

/-! ### bytes -/
theorem tok_table : ∀ c : Fin 256, (¬ (97 ≤ c.val ∧ c.val ≤ 122) ∧ ¬ (65 ≤ c.val ∧ c.val ≤ 90) ∧ ¬ (48 ≤ c.val ∧ c.val ≤ 57)) → decide (0 ≤ firstIdx ⟨#[33, 35, 36, 37, 38, 39, 42, 43, 45, 46, 94, 95, 96, 124, 126]⟩ ((c.val : Int)).toNat.toUInt8) = tokN (c.val : Int) := by
  decide +kernel
theorem tok_mark (c : Int) (h0 : 0 ≤ c) (h1 : c ≤ 255) (a : ¬ (97 ≤ c ∧ c ≤ 122)) (b : ¬ (65 ≤ c ∧ c ≤ 90)) (d : ¬ (48 ≤ c ∧ c ≤ 57)) : decide (0 ≤ firstIdx ⟨#[33, 35, 36, 37, 38, 39, 42, 43, 45, 46, 94, 95, 96, 124, 126]⟩ c.toNat.toUInt8) = tokN c := by
  have := tok_table ⟨c.toNat, by omega⟩ ⟨by simp only; omega, by simp only; omega, by simp only; omega⟩
  simp only at this
  rw [show ((c.toNat : Nat) : Int) = c by omega] at this
  exact this
theorem isTokenByte_any (c : Int) (w : World) (h0 : 0 ≤ c) (h1 : c ≤ 255) :
    Calls Tryd.prog 45 #[.int .u8 c] w fun e w' => e = .returned (.bool (tokN c)) ∧ w = w' := by
  by_cases a : (97 ≤ c ∧ c ≤ 122)
  · have e : tokN c = true := by unfold tokN; simp [a]
    rw [e]; clear e
    obtain ⟨a1, a2⟩ := a
    go_enter Tryd.func45, Tryd.ntmps45
    go_wp2
    all_goals go_ret
    all_goals exact ⟨rfl, rfl⟩
  by_cases b : (65 ≤ c ∧ c ≤ 90)
  · have e : tokN c = true := by unfold tokN; simp [b]
    rw [e]; clear e a
    obtain ⟨a1, a2⟩ := b
    have a3 : ¬ 97 ≤ c := by omega
    go_enter Tryd.func45, Tryd.ntmps45
    go_wp2
    all_goals go_ret
    all_goals exact ⟨rfl, rfl⟩
  by_cases d : (48 ≤ c ∧ c ≤ 57)
  · have e : tokN c = true := by unfold tokN; simp [d]
    rw [e]; clear e a b
    obtain ⟨a1, a2⟩ := d
    have a3 : ¬ 97 ≤ c := by omega
    have a4 : ¬ 65 ≤ c := by omega
    go_enter Tryd.func45, Tryd.ntmps45
    go_wp2
    all_goals go_ret
    all_goals exact ⟨rfl, rfl⟩
  have m := tok_mark c h0 h1 a b d
  have r := indexByte_any ⟨#[33, 35, 36, 37, 38, 39, 42, 43, 45, 46, 94, 95, 96, 124, 126]⟩ c w
  generalize firstIdx ⟨#[33, 35, 36, 37, 38, 39, 42, 43, 45, 46, 94, 95, 96, 124, 126]⟩ c.toNat.toUInt8 = z at *
  rw [← m]; clear m
  have hc : c < 48 ∨ (57 < c ∧ c < 65) ∨ (90 < c ∧ c < 97) ∨ 122 < c := by omega
  clear a b d
  rcases hc with hc | hc | hc | hc
  all_goals
    (try obtain ⟨hc, hc2⟩ := hc)
    go_enter Tryd.func45, Tryd.ntmps45
    go_wp2_with fail
    refine r.mono ?_
    rintro e w' ⟨rfl, rfl⟩
    clear r
    go_wp2
    all_goals go_ret
    all_goals exact ⟨rfl, rfl⟩
theorem isTextByte_any (c : Int) (w : World) (h0 : 0 ≤ c) (h1 : c ≤ 255) :
    Calls Tryd.prog 50 #[.int .u8 c] w fun e w' => e = .returned (.bool (txtN c)) ∧ w = w' := by
  by_cases a : c = 9
  · subst a
    go_enter Tryd.func50, Tryd.ntmps50
    go_wp2
    all_goals go_ret
    all_goals exact ⟨rfl, rfl⟩
  by_cases b : c < 32
  · have e : txtN c = false := by unfold txtN; simp [a]; omega
    have g : (c == 9) = false := beq_eq_false_iff_ne.2 a
    rw [e]; clear e a
    go_enter Tryd.func50, Tryd.ntmps50
    go_wp2
    all_goals go_ret
    all_goals exact ⟨rfl, rfl⟩
  have g : (c == 9) = false := beq_eq_false_iff_ne.2 a
  clear a
  by_cases d : c = 127
  · subst d
    go_enter Tryd.func50, Tryd.ntmps50
    go_wp2
    all_goals go_ret
    all_goals exact ⟨rfl, rfl⟩
  · have e : txtN c = true := by unfold txtN; simp [d]; omega
    have g2 : (c == 127) = false := beq_eq_false_iff_ne.2 d
    rw [e]; clear e d
    go_enter Tryd.func50, Tryd.ntmps50
    go_wp2
    all_goals go_ret
    all_goals exact ⟨rfl, rfl⟩
end Go.Proofs.YtdldoklkenhopaaDoor.Fi
