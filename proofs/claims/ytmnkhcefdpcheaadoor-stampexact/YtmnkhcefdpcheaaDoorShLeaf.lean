/-
  Contracts of the leaves of package sha: RotateLeft32, turnedRight, the four sigmas, choice, majority. They compute, and change nothing.
-/
import Derived.Test.YtmnkhcefdpcheaaDoorRows
import Derived.Test.YtmnkhcefdpcheaaDoorShMath
import Derived.Lib.Hide
namespace Go.Proofs.YtmnkhcefdpcheaaDoor.Sh
open Go.RowKit
set_option linter.unusedVariables false

theorem ret_int {k : IntKind} {a b : Int} (h : a = b) : Ending.returned (.int k a) = .returned (.int k b) := by rw [h]
theorem rot_num (x n : Nat) (hx : x < 4294967296) (h0 : 0 < n) (h1 : n < 32) : bits .or .u32 ((x : Int) * 2 ^ (32 - n) % 4294967296) ((x : Int) / 2 ^ (32 - (32 - n))) = ((ror x n : Nat) : Int) := by
  rw [show 32 - (32 - n) = n by omega, show (x : Int) * 2 ^ (32 - n) % 4294967296 = ((x * 2 ^ (32 - n) % 4294967296 : Nat) : Int) by simp, wshr, wor (Nat.mod_lt _ (by decide)) (div_lt hx)]
  rfl
theorem rot_any (x n : Nat) (w : World) (hx : x < 4294967296) (h0 : 0 < n) (h1 : n < 32) :
    Calls Tryd.prog 49 #[.int .u32 x, .int .i64 (-(n : Int))] w fun e w' => e = .returned (.int .u32 (ror x n : Nat)) ∧ w = w' := by
  have e1 : IntKind.u64.wrap (-(n : Int)) = 18446744073709551616 - (n : Int) := by rw [IntKind.wrap_u64]; omega
  have e2 : bits .and .u64 (18446744073709551616 - (n : Int)) 31 = 32 - (n : Int) := by
    rw [show (18446744073709551616 - (n : Int)) = ((18446744073709551616 - n : Nat) : Int) by omega]
    have := u64_and_nat (18446744073709551616 - n) 31 (by omega) (by omega)
    rw [nat_mask5] at this
    refine this.trans ?_
    omega
  go_enter Tryd.func49, Tryd.ntmps49
  go_wp2
  go_ret
  exact ⟨ret_int (rot_num x n hx h0 h1), rfl⟩

theorem turned_any (x n : Nat) (w : World) (hx : x < 4294967296) (h0 : 0 < n) (h1 : n < 32) :
    Calls Tryd.prog 48 #[.int .u32 x, .int .i64 (n : Int)] w fun e w' => e = .returned (.int .u32 (ror x n : Nat)) ∧ w = w' := by
  go_enter Tryd.func48, Tryd.ntmps48
  go_wp2_with fail
  refine (rot_any x n _ hx h0 h1).mono ?_
  rintro e w' ⟨rfl, rfl⟩
  go_wp2
  go_ret
  exact ⟨rfl, rfl⟩

theorem ss0_any (x : Nat) (w : World) (hx : x < 4294967296) :
    Calls Tryd.prog 47 #[.int .u32 x] w fun e w' => e = .returned (.int .u32 (ss0 x : Nat)) ∧ w = w' := by
  go_enter Tryd.func47, Tryd.ntmps47
  go_wp2_with fail
  refine (turned_any x 7 _ hx (by decide) (by decide)).mono ?_
  rintro e w' ⟨rfl, rfl⟩
  go_wp2_with fail
  refine (turned_any x 18 _ hx (by decide) (by decide)).mono ?_
  rintro e w' ⟨rfl, rfl⟩
  go_wp2
  go_ret
  refine ⟨ret_int ?_, rfl⟩
  rw [wxor (ror_lt hx) (ror_lt hx), show (x : Int) / 8 = ((x / 8 : Nat) : Int) by omega, wxor (xor_lt (ror_lt hx) (ror_lt hx)) (div_lt hx)]
  rfl
theorem ss1_any (x : Nat) (w : World) (hx : x < 4294967296) :
    Calls Tryd.prog 46 #[.int .u32 x] w fun e w' => e = .returned (.int .u32 (ss1 x : Nat)) ∧ w = w' := by
  go_enter Tryd.func46, Tryd.ntmps46
  go_wp2_with fail
  refine (turned_any x 17 _ hx (by decide) (by decide)).mono ?_
  rintro e w' ⟨rfl, rfl⟩
  go_wp2_with fail
  refine (turned_any x 19 _ hx (by decide) (by decide)).mono ?_
  rintro e w' ⟨rfl, rfl⟩
  go_wp2
  go_ret
  refine ⟨ret_int ?_, rfl⟩
  rw [wxor (ror_lt hx) (ror_lt hx), show (x : Int) / 1024 = ((x / 1024 : Nat) : Int) by omega, wxor (xor_lt (ror_lt hx) (ror_lt hx)) (div_lt hx)]
  rfl
theorem bs0_any (x : Nat) (w : World) (hx : x < 4294967296) :
    Calls Tryd.prog 44 #[.int .u32 x] w fun e w' => e = .returned (.int .u32 (bs0 x : Nat)) ∧ w = w' := by
  go_enter Tryd.func44, Tryd.ntmps44
  go_wp2_with fail
  refine (turned_any x 2 _ hx (by decide) (by decide)).mono ?_
  rintro e w' ⟨rfl, rfl⟩
  go_wp2_with fail
  refine (turned_any x 13 _ hx (by decide) (by decide)).mono ?_
  rintro e w' ⟨rfl, rfl⟩
  go_wp2_with fail
  refine (turned_any x 22 _ hx (by decide) (by decide)).mono ?_
  rintro e w' ⟨rfl, rfl⟩
  go_wp2
  go_ret
  refine ⟨ret_int ?_, rfl⟩
  rw [wxor (ror_lt hx) (ror_lt hx), wxor (xor_lt (ror_lt hx) (ror_lt hx)) (ror_lt hx)]
  rfl
theorem bs1_any (x : Nat) (w : World) (hx : x < 4294967296) :
    Calls Tryd.prog 42 #[.int .u32 x] w fun e w' => e = .returned (.int .u32 (bs1 x : Nat)) ∧ w = w' := by
  go_enter Tryd.func42, Tryd.ntmps42
  go_wp2_with fail
  refine (turned_any x 6 _ hx (by decide) (by decide)).mono ?_
  rintro e w' ⟨rfl, rfl⟩
  go_wp2_with fail
  refine (turned_any x 11 _ hx (by decide) (by decide)).mono ?_
  rintro e w' ⟨rfl, rfl⟩
  go_wp2_with fail
  refine (turned_any x 25 _ hx (by decide) (by decide)).mono ?_
  rintro e w' ⟨rfl, rfl⟩
  go_wp2
  go_ret
  refine ⟨ret_int ?_, rfl⟩
  rw [wxor (ror_lt hx) (ror_lt hx), wxor (xor_lt (ror_lt hx) (ror_lt hx)) (ror_lt hx)]
  rfl
theorem ch_any (e f g : Nat) (w : World) (he : e < 4294967296) (hf : f < 4294967296) (hg : g < 4294967296) :
    Calls Tryd.prog 43 #[.int .u32 e, .int .u32 f, .int .u32 g] w fun r w' => r = .returned (.int .u32 (chN e f g : Nat)) ∧ w = w' := by
  go_enter Tryd.func43, Tryd.ntmps43
  go_wp2
  go_ret
  refine ⟨ret_int ?_, rfl⟩
  rw [show IntKind.u32.max = 4294967295 by decide, wnot he, wand he hf, wand (by omega) hg, wxor (and_lt he) (Nat.lt_of_le_of_lt Nat.and_le_right hg)]
  rfl
theorem maj_any (a b c : Nat) (w : World) (ha : a < 4294967296) (hb : b < 4294967296) (hc : c < 4294967296) :
    Calls Tryd.prog 45 #[.int .u32 a, .int .u32 b, .int .u32 c] w fun r w' => r = .returned (.int .u32 (majN a b c : Nat)) ∧ w = w' := by
  go_enter Tryd.func45, Tryd.ntmps45
  go_wp2
  go_ret
  refine ⟨ret_int ?_, rfl⟩
  rw [wand ha hb, wand ha hc, wand hb hc, wxor (and_lt ha) (and_lt ha), wxor (xor_lt (and_lt ha) (and_lt ha)) (and_lt hb)]
  rfl
end Go.Proofs.YtmnkhcefdpcheaaDoor.Sh
