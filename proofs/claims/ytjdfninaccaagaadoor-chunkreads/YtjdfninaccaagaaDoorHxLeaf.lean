/-
  Contracts of the leaves of package hexa: what smallDigit, anyDigit, isDecimal and atMost answer for every argument. No conditions but that a byte is a byte.
-/
import Derived.Test.YtjdfninaccaagaaDoorRows
import Derived.WalkKit
import Derived.Lib.Hide
namespace Go.Proofs.YtjdfninaccaagaaDoor.Hx
open Go.RowKit
set_option linter.unusedVariables false
set_option maxRecDepth 20000

/-- the value of a small digit of base 16 -/
def sv (c : Int) : Int := if 48 ≤ c ∧ c ≤ 57 then c - 48 else if 97 ≤ c ∧ c ≤ 102 then c - 87 else 0
def sok (c : Int) : Bool := decide (48 ≤ c ∧ c ≤ 57) || decide (97 ≤ c ∧ c ≤ 102)
/-- the value of any digit of base 16 -/
def av (c : Int) : Int := if 65 ≤ c ∧ c ≤ 70 then c - 55 else sv c
def aok (c : Int) : Bool := decide (65 ≤ c ∧ c ≤ 70) || sok c

theorem small_any (c : Int) (w : World) (h0 : 0 ≤ c) (h1 : c ≤ 255) :
    Calls Tryd.prog 71 #[.int .u8 c] w fun e w' => e = .returned (.tuple #[.int .u8 (sv c), .bool (sok c)]) ∧ w = w' := by
  by_cases a : 48 ≤ c
  · by_cases b : c ≤ 57
    · have e1 : sv c = c - 48 := by unfold sv; rw [if_pos ⟨a, b⟩]
      have e2 : sok c = true := by unfold sok; simp [a, b]
      rw [e1, e2]; clear e1 e2
      go_enter Tryd.func71, Tryd.ntmps71
      go_wp2
      go_ret2
      exact ⟨rfl, rfl⟩
    · by_cases a' : 97 ≤ c
      · by_cases b' : c ≤ 102
        · have e1 : sv c = c - 87 := by unfold sv; rw [if_neg (by omega), if_pos ⟨a', b'⟩]
          have e2 : sok c = true := by unfold sok; simp [a', b']
          rw [e1, e2]; clear e1 e2
          go_enter Tryd.func71, Tryd.ntmps71
          go_wp2
          go_ret2
          exact ⟨by rw [show c - 97 + 10 = c - 87 by omega]; rfl, rfl⟩
        · have e1 : sv c = 0 := by unfold sv; rw [if_neg (by omega), if_neg (by omega)]
          have e2 : sok c = false := by unfold sok; simp; omega
          rw [e1, e2]; clear e1 e2
          go_enter Tryd.func71, Tryd.ntmps71
          go_wp2
          go_ret2
          exact ⟨rfl, rfl⟩
      · have e1 : sv c = 0 := by unfold sv; rw [if_neg (by omega), if_neg (by omega)]
        have e2 : sok c = false := by unfold sok; simp; omega
        rw [e1, e2]; clear e1 e2
        go_enter Tryd.func71, Tryd.ntmps71
        go_wp2
        go_ret2
        exact ⟨rfl, rfl⟩
  · have a' : ¬ 97 ≤ c := by omega
    have e1 : sv c = 0 := by unfold sv; rw [if_neg (by omega), if_neg (by omega)]
    have e2 : sok c = false := by unfold sok; simp; omega
    rw [e1, e2]; clear e1 e2
    go_enter Tryd.func71, Tryd.ntmps71
    go_wp2
    go_ret2
    exact ⟨rfl, rfl⟩

theorem any_any (c : Int) (w : World) (h0 : 0 ≤ c) (h1 : c ≤ 255) :
    Calls Tryd.prog 62 #[.int .u8 c] w fun e w' => e = .returned (.tuple #[.int .u8 (av c), .bool (aok c)]) ∧ w = w' := by
  by_cases a : 65 ≤ c
  · by_cases b : c ≤ 70
    · have e1 : av c = c - 55 := by unfold av; rw [if_pos ⟨a, b⟩]
      have e2 : aok c = true := by unfold aok; simp [a, b]
      rw [e1, e2]; clear e1 e2
      go_enter Tryd.func62, Tryd.ntmps62
      go_wp2
      go_ret2
      exact ⟨by rw [show c - 65 + 10 = c - 55 by omega]; rfl, rfl⟩
    · have e1 : av c = sv c := by unfold av; rw [if_neg (by omega)]
      have e2 : aok c = sok c := by unfold aok; simp; omega
      rw [e1, e2]; clear e1 e2
      go_enter Tryd.func62, Tryd.ntmps62
      go_wp2_with fail
      refine (small_any c _ h0 h1).mono ?_
      rintro e w' ⟨rfl, rfl⟩
      go_wp2
      go_ret2
      exact ⟨rfl, rfl⟩
  · have e1 : av c = sv c := by unfold av; rw [if_neg (by omega)]
    have e2 : aok c = sok c := by unfold aok; simp; omega
    rw [e1, e2]; clear e1 e2
    go_enter Tryd.func62, Tryd.ntmps62
    go_wp2_with fail
    refine (small_any c _ h0 h1).mono ?_
    rintro e w' ⟨rfl, rfl⟩
    go_wp2
    go_ret2
    exact ⟨rfl, rfl⟩

/-- a limit's answer -/
def amN (n m : Int) : Int := if 0 ≤ m ∧ n ≤ m ∧ n ≤ 4611686018427387904 then n else 0
def amE (n m : Int) : Int := if 0 ≤ m ∧ n ≤ m ∧ n ≤ 4611686018427387904 then 0 else 14

theorem atMost_any (n m : Int) (w : World) (h0 : 0 ≤ n) (h1 : n ≤ 18446744073709551615) (h2 : -9223372036854775808 ≤ m) (h3 : m ≤ 9223372036854775807) :
    Calls Tryd.prog 63 #[.int .u64 n, .int .i64 m] w fun e w' => e = .returned (.tuple #[.int .i64 (amN n m), .int .i64 (amE n m)]) ∧ w = w' := by
  by_cases a : m < 0
  · have e1 : amN n m = 0 := by unfold amN; rw [if_neg (by omega)]
    have e2 : amE n m = 14 := by unfold amE; rw [if_neg (by omega)]
    rw [e1, e2]; clear e1 e2
    go_enter Tryd.func63, Tryd.ntmps63
    go_wp2
    go_ret2
    exact ⟨rfl, rfl⟩
  · have a' : 0 ≤ m := by omega
    by_cases b : m < n
    · have e1 : amN n m = 0 := by unfold amN; rw [if_neg (by omega)]
      have e2 : amE n m = 14 := by unfold amE; rw [if_neg (by omega)]
      rw [e1, e2]; clear e1 e2
      go_enter Tryd.func63, Tryd.ntmps63
      go_wp2
      go_ret2
      exact ⟨rfl, rfl⟩
    · by_cases c : 4611686018427387904 < n
      · have e1 : amN n m = 0 := by unfold amN; rw [if_neg (by omega)]
        have e2 : amE n m = 14 := by unfold amE; rw [if_neg (by omega)]
        rw [e1, e2]; clear e1 e2
        go_enter Tryd.func63, Tryd.ntmps63
        go_wp2
        go_ret2
        exact ⟨rfl, rfl⟩
      · have e1 : amN n m = n := by unfold amN; rw [if_pos (by omega)]
        have e2 : amE n m = 0 := by unfold amE; rw [if_pos (by omega)]
        rw [e1, e2]; clear e1 e2
        go_enter Tryd.func63, Tryd.ntmps63
        go_wp2
        go_ret2
        exact ⟨rfl, rfl⟩
end Go.Proofs.YtjdfninaccaagaaDoor.Hx
