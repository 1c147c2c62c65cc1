/-
  Contracts of crc.step, crc.eightSteps and crc.More: what they answer for every argument. They compute, and change nothing.
-/
import Derived.Test.YtdmgobffhpgjlaaGreatRows
import Derived.Test.YtdmgobffhpgjlaaGreatCrMath
import Derived.Lib.Hide
import Derived.PlainAid

namespace Go.Proofs.YtdmgobffhpgjlaaGreat.Cr
open Go.RowKit Go.PlainAid
set_option linter.unusedVariables false
set_option maxRecDepth 20000

theorem ret_int {k : IntKind} {a b : Int} (h : a = b) : Ending.returned (.int k a) = .returned (.int k b) := by rw [h]
theorem wxor {a b : Nat} (ha : a < 4294967296) (hb : b < 4294967296) : bits .xor .u32 (a : Int) (b : Int) = ((a ^^^ b : Nat) : Int) := u32_xor_nat a b ha hb
theorem wand1 {a : Nat} (ha : a < 4294967296) : bits .and .u32 (a : Int) 1 = ((a % 2 : Nat) : Int) := by
  have := u32_and_nat a 1 ha (by decide)
  rw [Nat.and_one_is_mod] at this
  exact this
theorem wones {a : Nat} (ha : a < 4294967296) : bits .xor .u32 (a : Int) 4294967295 = ((a ^^^ 4294967295 : Nat) : Int) := wxor ha (by decide)

theorem step_any (n : Nat) (w : World) (h : n < 4294967296) :
    Calls Tryz.prog 125 #[.int .u32 n] w fun e w' => e = .returned (.int .u32 (stp n : Nat)) ∧ w = w' := by
  have e1 := wand1 h
  rcases Nat.mod_two_eq_zero_or_one n with e | e
  · rw [e] at e1
    go_enter Tryz.func125, Tryz.ntmps125
    go_wp2
    go_ret
    refine ⟨ret_int ?_, rfl⟩
    rw [stp_even e]; omega
  · rw [e] at e1
    go_enter Tryz.func125, Tryz.ntmps125
    go_wp2
    go_ret
    refine ⟨ret_int ?_, rfl⟩
    rw [stp_odd e, show (n : Int) / 2 = ((n / 2 : Nat) : Int) by omega]
    exact wxor (by omega) (by decide)

theorem eight_any (n : Nat) (w : World) (h : n < 4294967296) :
    Calls Tryz.prog 111 #[.int .u32 n] w fun e w' => e = .returned (.int .u32 (eight n : Nat)) ∧ w = w' := by
  go_enter Tryz.func111, Tryz.ntmps111
  go_wp2
  go_loopw [0, 3] (fun x i wr => ∃ k : Nat, k ≤ 8 ∧ x = .int .u32 (stpN k n : Nat) ∧ i = .int .i64 k ∧ w = wr) (fun _ i _ => 8 - (intOf i).toNat)
  case atStart => exact ⟨0, by decide, by rw [stpN_zero], rfl, rfl⟩
  case round =>
    obtain ⟨k, hk, rfl, rfl, rfl⟩ := hrel
    by_cases hlt : k < 8
    · have l1 : (k : Int) < 8 := by omega
      go_wp2_with fail
      refine (step_any (stpN k n) _ (stpN_lt k h)).mono ?_
      rintro e w' ⟨rfl, rfl⟩
      go_wp2
      go_roundw
      case rel => exact ⟨k + 1, by omega, by rw [stpN_snoc], by go_num, trivial⟩
      case measure => simp [intOf]; omega
    · obtain rfl : k = 8 := by omega
      go_wp2
      go_ret
      exact ⟨rfl, rfl⟩

/-- the bytes of a text, as numbers -/
def bl (s : ByteArray) : List Nat := s.data.toList.map UInt8.toNat
theorem bl_len (s : ByteArray) : (bl s).length = s.size := by simp [bl]
theorem bl_lt (s : ByteArray) : ∀ x ∈ bl s, x < 256 := by
  intro x hx
  simp only [bl, List.mem_map] at hx
  obtain ⟨c, _, rfl⟩ := hx
  exact c.toNat_lt
def bn (s : ByteArray) (k : Nat) : Nat := (bt s k).toNat
theorem bn_bt (s : ByteArray) (k : Nat) : ((bn s k : Nat) : Int) = bt s k := by
  have := bt_nonneg s k
  unfold bn; omega
theorem bn_lt (s : ByteArray) (k : Nat) : bn s k < 256 := by
  have := bt_le s k
  have := bt_nonneg s k
  unfold bn; omega
theorem bl_snoc (s : ByteArray) (k : Nat) (h : k < s.size) : (bl s).take (k + 1) = (bl s).take k ++ [bn s k] := by
  rw [List.take_succ_eq_append_getElem (by rw [bl_len]; exact h)]
  congr 2
  unfold bn bt
  rw [dif_pos h]
  simp only [bl, List.getElem_map]
  rfl
theorem bl_take_lt (s : ByteArray) (k : Nat) : ∀ x ∈ (bl s).take k, x < 256 := fun x hx => bl_lt s x (List.mem_of_mem_take hx)

theorem more_any (sum : Nat) (s : ByteArray) (w : World) (h : sum < 4294967296) (hs : s.size ≤ 9223372036854775807) :
    Calls Tryz.prog 101 #[.int .u32 sum, .string s] w fun e w' => e = .returned (.int .u32 (mor sum (bl s) : Nat)) ∧ w = w' := by
  have e0 := wones h
  have hb := get_bt s
  go_enter Tryz.func101, Tryz.ntmps101
  go_wp2
  go_loopw [5, 6] (fun x i wr => ∃ k : Nat, k ≤ s.size ∧ x = .int .u32 (crcL (sum ^^^ 4294967295) ((bl s).take k) : Nat) ∧ i = .int .i64 k ∧ w = wr) (fun _ i _ => s.size - (intOf i).toNat)
  case atStart => exact ⟨0, Nat.zero_le _, by rw [List.take_zero, crcL_nil], rfl, rfl⟩
  case round =>
    obtain ⟨k, hk, rfl, rfl, rfl⟩ := hrel
    have hc := crcL_lt ((bl s).take k) (xor_lt h (show 4294967295 < 4294967296 by decide)) (bl_take_lt s k)
    by_cases hlt : k < s.size
    · have l1 : (k : Int) < (s.size : Int) := by omega
      have i1 : (0 : Int) ≤ (k : Int) := Int.natCast_nonneg _
      have b0 := bt_nonneg s k
      have b1 := bt_le s k
      have b2 := bn_lt s k
      have e1 : bits .xor .u32 ((crcL (sum ^^^ 4294967295) ((bl s).take k) : Nat) : Int) (bt s k) = ((crcL (sum ^^^ 4294967295) ((bl s).take k) ^^^ bn s k : Nat) : Int) := by
        rw [← bn_bt]; exact wxor hc (by omega)
      go_wp2_with fail
      refine (eight_any (crcL (sum ^^^ 4294967295) ((bl s).take k) ^^^ bn s k) _ (xor_lt hc (by omega))).mono ?_
      rintro e w' ⟨rfl, rfl⟩
      go_wp2
      go_roundw
      case rel => exact ⟨k + 1, by omega, by rw [bl_snoc s k hlt, crcL_snoc], by go_num, trivial⟩
      case measure => simp [intOf]; omega
    · have l1 : ¬ (k : Int) < (s.size : Int) := by omega
      have e2 := wones hc
      have e3 : (bl s).take k = bl s := List.take_of_length_le (by rw [bl_len]; omega)
      rw [e3] at e2
      rw [e3]
      clear e3
      go_wp2
      go_ret
      exact ⟨rfl, rfl⟩
end Go.Proofs.YtdmgobffhpgjlaaGreat.Cr
