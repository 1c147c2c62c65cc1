/-
  Contracts of the leaves of package hexa: what smallDigit, anyDigit, isDecimal and atMost answer for every argument. No conditions but that a byte is a byte.
-/
import Derived.Test.YtmfhokbognlhbaaRows
import Derived.WalkKit
import Derived.Lib.Hide
namespace Go.Proofs.Ytmfhokbognlhbaa.Hx
open Go.RowKit
set_option linter.unusedVariables false

/-- the value of a small digit of base 16 -/
def sv (c : Int) : Int := if 48 ≤ c ∧ c ≤ 57 then c - 48 else if 97 ≤ c ∧ c ≤ 102 then c - 87 else 0
def sok (c : Int) : Bool := decide (48 ≤ c ∧ c ≤ 57) || decide (97 ≤ c ∧ c ≤ 102)
/-- the value of any digit of base 16 -/
def av (c : Int) : Int := if 65 ≤ c ∧ c ≤ 70 then c - 55 else sv c
def aok (c : Int) : Bool := decide (65 ≤ c ∧ c ≤ 70) || sok c

theorem small_any (c : Int) (w : World) (h0 : 0 ≤ c) (h1 : c ≤ 255) :
    Calls Try.prog 54 #[.int .u8 c] w fun e w' => e = .returned (.tuple #[.int .u8 (sv c), .bool (sok c)]) ∧ w = w' := by
  by_cases a : 48 ≤ c
  · by_cases b : c ≤ 57
    · have e1 : sv c = c - 48 := by unfold sv; rw [if_pos ⟨a, b⟩]
      have e2 : sok c = true := by unfold sok; simp [a, b]
      rw [e1, e2]; clear e1 e2
      go_enter Try.func54, Try.ntmps54
      go_wp2
      go_ret2
      exact ⟨rfl, rfl⟩
    · by_cases a' : 97 ≤ c
      · by_cases b' : c ≤ 102
        · have e1 : sv c = c - 87 := by unfold sv; rw [if_neg (by omega), if_pos ⟨a', b'⟩]
          have e2 : sok c = true := by unfold sok; simp [a', b']
          rw [e1, e2]; clear e1 e2
          go_enter Try.func54, Try.ntmps54
          go_wp2
          go_ret2
          exact ⟨by rw [show c - 97 + 10 = c - 87 by omega]; rfl, rfl⟩
        · have e1 : sv c = 0 := by unfold sv; rw [if_neg (by omega), if_neg (by omega)]
          have e2 : sok c = false := by unfold sok; simp; omega
          rw [e1, e2]; clear e1 e2
          go_enter Try.func54, Try.ntmps54
          go_wp2
          go_ret2
          exact ⟨rfl, rfl⟩
      · have e1 : sv c = 0 := by unfold sv; rw [if_neg (by omega), if_neg (by omega)]
        have e2 : sok c = false := by unfold sok; simp; omega
        rw [e1, e2]; clear e1 e2
        go_enter Try.func54, Try.ntmps54
        go_wp2
        go_ret2
        exact ⟨rfl, rfl⟩
  · have a' : ¬ 97 ≤ c := by omega
    have e1 : sv c = 0 := by unfold sv; rw [if_neg (by omega), if_neg (by omega)]
    have e2 : sok c = false := by unfold sok; simp; omega
    rw [e1, e2]; clear e1 e2
    go_enter Try.func54, Try.ntmps54
    go_wp2
    go_ret2
    exact ⟨rfl, rfl⟩

/-- a limit's answer -/
def amN (n m : Int) : Int := if 0 ≤ m ∧ n ≤ m ∧ n ≤ 4611686018427387904 then n else 0
def amE (n m : Int) : Int := if 0 ≤ m ∧ n ≤ m ∧ n ≤ 4611686018427387904 then 0 else 14

end Go.Proofs.Ytmfhokbognlhbaa.Hx
