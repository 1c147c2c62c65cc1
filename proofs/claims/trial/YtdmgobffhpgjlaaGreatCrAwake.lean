/-
  The document's examples of layer 3: awake answers true. And the document's More.
-/
import Derived.Test.YtdmgobffhpgjlaaGreatCrEnds
namespace Go.Proofs.YtdmgobffhpgjlaaGreat.Cr
open Go.RowKit Go.PlainAid
set_option linter.unusedVariables false
set_option maxRecDepth 20000

theorem wnot {e : Nat} (h : e < 4294967296) : bits .xor .u32 4294967295 (e : Int) = ((e ^^^ 4294967295 : Nat) : Int) := by
  rw [Nat.xor_comm]
  exact u32_xor_nat 4294967295 e (by decide) h
set_option maxHeartbeats 800000 in
theorem rmore_any (sum : Nat) (s : ByteArray) (w : World) (hsum : sum < 4294967296) (hs : s.size ≤ 9223372036854775807) :
    Calls Tryz.prog 81 #[.int .u32 sum, .string s] w fun e w' => e = .returned (.int .u32 (mor sum (bl s) : Nat)) ∧ w = w' := by
  have e0 := wnot hsum
  have hb := get_bt s
  go_enter Tryz.func81, Tryz.ntmps81
  go_wp2
  go_loopw [5, 6] (fun x i wr => ∃ k : Nat, k ≤ s.size ∧ x = .int .u32 (crcL (sum ^^^ 4294967295) ((bl s).take k) : Nat) ∧ i = .int .i64 k ∧ w = wr) (fun _ i _ => s.size - (intOf i).toNat)
  case atStart => exact ⟨0, Nat.zero_le _, by rw [List.take_zero, crcL_nil, ← e0]; rfl, rfl, rfl⟩
  case round =>
    obtain ⟨k, hk, rfl, rfl, rfl⟩ := hrel
    have hc := crcL_lt ((bl s).take k) (xor_lt hsum (show 4294967295 < 4294967296 by decide)) (bl_take_lt s k)
    by_cases hlt : k < s.size
    · have l1 : (k : Int) < (s.size : Int) := by omega
      have i1 : (0 : Int) ≤ (k : Int) := Int.natCast_nonneg _
      have b0 := bt_nonneg s k
      have b1 := bt_le s k
      have b2 := bn_lt s k
      have e1 : bits .xor .u32 ((crcL (sum ^^^ 4294967295) ((bl s).take k) : Nat) : Int) (bt s k) = ((crcL (sum ^^^ 4294967295) ((bl s).take k) ^^^ bn s k : Nat) : Int) := by
        rw [← bn_bt]; exact wxor hc (by omega)
      have en := Lib.hid (crcL_snoc (sum ^^^ 4294967295) (bn s k) ((bl s).take k))
      have hx : crcL (sum ^^^ 4294967295) ((bl s).take k) ^^^ bn s k < 4294967296 := xor_lt hc (by omega)
      go_wp2
      generalize crcL (sum ^^^ 4294967295) ((bl s).take k) ^^^ bn s k = y at en hx ⊢
      clear e1 hc b2
      go_loopw [5, 7] (fun x i wr => ∃ t : Nat, t ≤ 8 ∧ x = .int .u32 (stpN t y : Nat) ∧ i = .int .i64 t ∧ w = wr) (fun _ i _ => 8 - (intOf i).toNat)
      case atStart => exact ⟨0, by decide, by rw [stpN_zero], rfl, rfl⟩
      case round =>
        obtain ⟨t, ht, rfl, rfl, rfl⟩ := hrel
        by_cases h8 : t < 8
        · have l8 : (t : Int) < 8 := by omega
          have hy := stpN_lt t hx
          have sn := Lib.hid (stpN_snoc t y)
          generalize stpN t y = z at hy sn ⊢
          have e1 := wand1 hy
          rcases Nat.mod_two_eq_zero_or_one z with e | e
          · rw [e] at e1
            have es := Lib.hid (stp_even e)
            clear e
            go_wp2
            go_roundw
            case rel => exact ⟨t + 1, by omega, by rw [sn.out, es.out]; go_num, by go_num, trivial⟩
            case measure => simp [intOf]; omega
          · rw [e] at e1
            have es := Lib.hid (stp_odd e)
            clear e
            have ex : bits .xor .u32 ((z : Int) / 2) 3988292384 = ((z / 2 ^^^ 3988292384 : Nat) : Int) := by
              rw [show (z : Int) / 2 = ((z / 2 : Nat) : Int) by omega]
              exact wxor (by omega) (by decide)
            go_wp2
            go_roundw
            case rel => exact ⟨t + 1, by omega, by rw [sn.out, es.out], by go_num, trivial⟩
            case measure => simp [intOf]; omega
        · obtain rfl : t = 8 := by omega
          go_wp2
          go_roundw
          case rel => exact ⟨k + 1, by omega, by rw [bl_snoc s k hlt, en.out]; rfl, by go_num, trivial⟩
          case measure => simp [intOf]; omega
    · have l1 : ¬ (k : Int) < (s.size : Int) := by omega
      have e2 := wnot hc
      have e3 : (bl s).take k = bl s := List.take_of_length_le (by rw [bl_len]; omega)
      rw [e3] at e2
      rw [e3]
      clear e3
      go_wp2
      go_ret
      exact ⟨ret_int e2, rfl⟩
end Go.Proofs.YtdmgobffhpgjlaaGreat.Cr
