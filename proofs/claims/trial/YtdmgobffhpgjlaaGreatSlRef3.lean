/-
  The document's took and counted.
-/
import Derived.Test.YtdmgobffhpgjlaaGreatSlRef2
import Derived.BigQuiet

namespace Go.Proofs.YtdmgobffhpgjlaaGreat.Sl
open Go.RowKit Go.PlainAid Go.Proofs.YtdmgobffhpgjlaaGreat.Cr
set_option linter.unusedVariables false
set_option maxRecDepth 20000
set_option linter.unusedSimpArgs false

/-- a text from a place on, and the place behind it -/
def tkF (s : ByteArray) (at_ : Int) : ByteArray × Int :=
  if at_ < 0 ∨ (s.size : Int) ≤ at_ ∨ (s.size : Int) - at_ - 1 < (bn s at_.toNat : Int) then (none8, -1)
  else (s.extract (at_.toNat + 1) (at_.toNat + 1 + bn s at_.toNat), at_ + 1 + (bn s at_.toNat : Int))
theorem below_drewN {B : Nat} {a w : World} (h : Below B a w) (n : Nat) : Below B a (w.drewN n) := ⟨h.os, h.tape, h.output, h.size, h.block⟩
theorem tkF_no {s : ByteArray} {a : Int} (h : a < 0 ∨ (s.size : Int) ≤ a ∨ (s.size : Int) - a - 1 < (bn s a.toNat : Int)) : tkF s a = (none8, -1) := by unfold tkF; rw [if_pos h]
theorem tkF_yes {s : ByteArray} {k : Nat} (h : k + 1 + bn s k ≤ s.size) : tkF s (k : Int) = (s.extract (k + 1) (k + 1 + bn s k), ((k + 1 + bn s k : Nat) : Int)) := by
  unfold tkF
  rw [Int.toNat_natCast, if_neg (by omega)]
  simp
set_option maxHeartbeats 1000000 in
theorem took_any (s : ByteArray) (a : Int) (w : World) (hs : s.size ≤ 1000000) (h0 : -1 ≤ a) (h1 : a ≤ 1000000) :
    Calls Tryz.prog 109 #[.string s, .int .i64 a] w fun e w' => e = .returned (.tuple #[.string (tkF s a).1, .int .i64 (tkF s a).2]) ∧ Below w.heap.size w w' := by
  have hb := get_bt s
  by_cases c1 : a < 0
  · rw [tkF_no (.inl c1)]
    go_enter Tryz.func109, Tryz.ntmps109
    go_wp2
    go_ret2
    exact ⟨rfl, Below.refl _ _⟩
  · by_cases c2 : (s.size : Int) ≤ a
    · rw [tkF_no (.inr (.inl c2))]
      go_enter Tryz.func109, Tryz.ntmps109
      go_wp2
      go_ret2
      exact ⟨rfl, Below.refl _ _⟩
    · obtain ⟨k, rfl⟩ : ∃ k : Nat, a = (k : Int) := ⟨a.toNat, by omega⟩
      have i1 : (0 : Int) ≤ (k : Int) := Int.natCast_nonneg _
      have i2 : (k : Int) < (s.size : Int) := by omega
      have hk : k < s.size := by omega
      have b0 := bt_nonneg s k
      have b1 := bt_le s k
      have e1 := bn_bt s k
      by_cases c3 : (s.size : Int) - (k : Int) - 1 < bt s k
      · rw [tkF_no (.inr (.inr (by rw [Int.toNat_natCast, e1]; exact c3)))]
        clear e1
        go_enter Tryz.func109, Tryz.ntmps109
        go_wp2
        go_ret2
        exact ⟨rfl, Below.refl _ _⟩
      · rw [tkF_yes (by omega)]
        obtain ⟨m, hm⟩ : ∃ m : Nat, bn s k = m := ⟨_, rfl⟩
        rw [hm] at e1 ⊢
        rw [← e1] at c3 b1
        have c4 : k + 1 + m ≤ s.size := by omega
        have c5 : m ≤ 255 := by omega
        have E1 := Lib.hid e1
        have hb2 : ∀ (h : k < s.size), ((s[k]'h).toNat : Int) = (m : Int) := fun h => (hb k h).trans e1.symm
        clear e1 hm hb b0
        have j1 : (k : Int) + 1 ≤ (k : Int) + 1 + (m : Int) := by omega
        have j2 : (k : Int) + 1 + (m : Int) ≤ (s.size : Int) := by omega
        have j3 : (0 : Int) ≤ (k : Int) + 1 := by omega
        have t1 : ((k : Int) + 1).toNat = k + 1 := by omega
        have t2 : ((k : Int) + 1 + (m : Int)).toNat = k + 1 + m := by omega
        go_enter Tryz.func109, Tryz.ntmps109
        go_upto_region 3 with (fail)
        go_quiet (fail)
        go_wp2
        go_ret2
        refine ⟨?_, below_drewN (Below.refl _ _) _⟩
        first | rfl | simp
/-- a number from a place on, and the place behind it -/
def n8 (s : ByteArray) (k : Nat) : Nat := bN (((bl s).drop k).take 8)
def ctF (s : ByteArray) (a : Int) : Int × Int :=
  if a < 0 ∨ (s.size : Int) - a < 8 then (0, -1) else if 1099511627776 < n8 s a.toNat then (0, -1) else ((n8 s a.toNat : Int), a + 8)
theorem ctF_no {s : ByteArray} {a : Int} (h : a < 0 ∨ (s.size : Int) - a < 8) : ctF s a = (0, -1) := by unfold ctF; rw [if_pos h]
theorem ctF_big {s : ByteArray} {k : Nat} (h : k + 8 ≤ s.size) (h1 : 1099511627776 < n8 s k) : ctF s (k : Int) = (0, -1) := by
  unfold ctF
  rw [Int.toNat_natCast, if_neg (by omega), if_pos h1]
theorem ctF_yes {s : ByteArray} {k : Nat} (h : k + 8 ≤ s.size) (h1 : ¬ 1099511627776 < n8 s k) : ctF s (k : Int) = ((n8 s k : Int), (k : Int) + 8) := by
  unfold ctF
  rw [Int.toNat_natCast, if_neg (by omega), if_neg h1]
theorem part_snoc {s : ByteArray} {k i : Nat} (h : k + i < s.size) : ((bl s).drop k).take (i + 1) = ((bl s).drop k).take i ++ [bn s (k + i)] := by
  have h1 := bl_snoc s (k + i) h
  have h2 := congrArg (List.drop k) h1
  rw [List.drop_append_of_le_length (by rw [List.length_take, bl_len]; omega), List.drop_take, List.drop_take] at h2
  rw [show k + i + 1 - k = i + 1 by omega, show k + i - k = i by omega] at h2
  exact h2
theorem part_lt (s : ByteArray) (k i : Nat) (hi : i ≤ 8) : bN (((bl s).drop k).take i) < 256 ^ i := by
  have h := bN_lt (((bl s).drop k).take i) (fun x hx => bl_lt s x (List.mem_of_mem_drop (List.mem_of_mem_take hx)))
  have h2 : (((bl s).drop k).take i).length ≤ i := by rw [List.length_take]; omega
  exact Nat.lt_of_lt_of_le h (Nat.pow_le_pow_right (by decide) h2)
theorem wrap_u64 (z : Int) (h0 : 0 ≤ z) (h1 : z < 18446744073709551616) : IntKind.u64.wrap z = z := by
  unfold IntKind.wrap
  simp [IntKind.signed, IntKind.bits]
  omega
theorem or_byteU (a b : Nat) (h0 : a < 72057594037927936) (h1 : b < 256) : bits .or .u64 ((a : Int) * 256) (b : Int) = ((a * 256 + b : Nat) : Int) := by
  show IntKind.u64.wrap ((((BitVec.ofInt 64 ((a : Int) * 256)) ||| (BitVec.ofInt 64 (b : Int))).toNat : Nat) : Int) = _
  rw [BitVec.toNat_or, BitVec.toNat_ofInt, BitVec.toNat_ofInt]
  have hu' : ((((a : Int) * 256)) % ((2 ^ 64 : Nat) : Int)).toNat = a * 256 := by
    rw [show ((2 ^ 64 : Nat) : Int) = 18446744073709551616 by rfl]; omega
  have hc' : ((b : Int) % ((2 ^ 64 : Nat) : Int)).toNat = b := by
    rw [show ((2 ^ 64 : Nat) : Int) = 18446744073709551616 by rfl]; omega
  rw [hu', hc', nat_join 8 (a * 256) b (by omega) h1]
  exact wrap_u64 _ (by omega) (by omega)
set_option maxHeartbeats 1000000 in
theorem counted_any (s : ByteArray) (a : Int) (w : World) (hs : s.size ≤ 1000000) (h0 : -1 ≤ a) (h1 : a ≤ 1000000) :
    Calls Tryz.prog 110 #[.string s, .int .i64 a] w fun e w' => e = .returned (.tuple #[.int .i64 (ctF s a).1, .int .i64 (ctF s a).2]) ∧ Below w.heap.size w w' := by
  have hb := get_bt s
  by_cases c1 : a < 0
  · rw [ctF_no (.inl c1)]
    go_enter Tryz.func110, Tryz.ntmps110
    go_wp2
    go_ret2
    exact ⟨rfl, Below.refl _ _⟩
  · by_cases c2 : (s.size : Int) - a < 8
    · rw [ctF_no (.inr c2)]
      go_enter Tryz.func110, Tryz.ntmps110
      go_wp2
      go_ret2
      exact ⟨rfl, Below.refl _ _⟩
    · obtain ⟨k, rfl⟩ : ∃ k : Nat, a = (k : Int) := ⟨a.toNat, by omega⟩
      have hk : k + 8 ≤ s.size := by omega
      obtain ⟨r, hr⟩ : ∃ r, ctF s (k : Int) = r := ⟨_, rfl⟩
      rw [hr]
      have HR := Lib.hid hr
      clear hr
      go_enter Tryz.func110, Tryz.ntmps110
      go_wp2
      go_loopw [6, 7] (fun x i wr => ∃ j : Nat, j ≤ 8 ∧ x = .int .u64 (bN (((bl s).drop k).take j) : Int) ∧ i = .int .i64 j ∧ w = wr) (fun _ i _ => 8 - (intOf i).toNat)
      case atStart => exact ⟨0, Nat.zero_le _, rfl, rfl, rfl⟩
      case round =>
        obtain ⟨j, hj, rfl, rfl, rfl⟩ := hrel
        by_cases hlt : j < 8
        · have l1 : (j : Int) < 8 := by omega
          have i1 : (0 : Int) ≤ (k : Int) + (j : Int) := by omega
          have i2 : (k : Int) + (j : Int) < (s.size : Int) := by omega
          have ps := part_snoc (s := s) (k := k) (i := j) (by omega)
          have pl := part_lt s k j hj
          have pl2 : 256 ^ j ≤ 256 ^ 7 := Nat.pow_le_pow_right (by decide) (by omega)
          obtain ⟨m, hm⟩ : ∃ m, bN (((bl s).drop k).take j) = m := ⟨_, rfl⟩
          rw [hm] at pl ⊢
          have pm : m < 72057594037927936 := by omega
          have HM := Lib.hid hm
          have HP := Lib.hid ps
          clear hm ps pl pl2
          have t1 : ((k : Int) + (j : Int)).toNat = k + j := by omega
          obtain ⟨b, hbb⟩ : ∃ b, bn s (k + j) = b := ⟨_, rfl⟩
          have HB := Lib.hid hbb
          have hbt : bt s (k + j) = (b : Int) := by rw [← bn_bt, hbb]
          have b1 := bt_le s (k + j)
          rw [hbt] at b1
          clear hbb
          have o1 := or_byteU m b pm (by omega)
          go_wp2
          go_roundw
          case rel => exact ⟨j + 1, by omega, by rw [HP.out, bN_snoc, HM.out, HB.out]; rfl, by go_num, trivial⟩
          case measure => simp [intOf]; omega
        · have l1 : ¬ (j : Int) < 8 := by omega
          have e8 : j = 8 := by omega
          subst e8
          have n8e : bN (((bl s).drop k).take 8) = n8 s k := rfl
          rw [n8e]
          clear n8e
          by_cases c3 : 1099511627776 < n8 s k
          · have er := (HR.out).symm.trans (ctF_big hk c3)
            subst er
            have c4 : (1099511627776 : Int) < (n8 s k : Int) := by omega
            go_wp2
            go_ret2
            exact ⟨rfl, Below.refl _ _⟩
          · have er := (HR.out).symm.trans (ctF_yes hk c3)
            subst er
            have c4 : ¬ (1099511627776 : Int) < (n8 s k : Int) := by omega
            go_wp2
            go_ret2
            exact ⟨rfl, Below.refl _ _⟩
end Go.Proofs.YtdmgobffhpgjlaaGreat.Sl
