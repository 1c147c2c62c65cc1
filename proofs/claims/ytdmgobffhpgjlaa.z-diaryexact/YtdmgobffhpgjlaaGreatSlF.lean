/-
  The document's took and counted.
  What the document's Parse makes of a body: no program is spoken of.
-/
import Derived.Test.YtdmgobffhpgjlaaGreatSlRef2
import Derived.BigQuiet
import Derived.Test.YtdmgobffhpgjlaaGreatSlD
section
namespace Go.Proofs.YtdmgobffhpgjlaaGreat.Sl
open Go.RowKit Go.PlainAid Go.Proofs.YtdmgobffhpgjlaaGreat.Cr
set_option linter.unusedVariables false
set_option maxRecDepth 20000
set_option linter.unusedSimpArgs false

/-- a text from a place on, and the place behind it -/
def tkF (s : ByteArray) (at_ : Int) : ByteArray × Int :=
  if at_ < 0 ∨ (s.size : Int) ≤ at_ ∨ (s.size : Int) - at_ - 1 < (bn s at_.toNat : Int) then (none8, -1)
  else (s.extract (at_.toNat + 1) (at_.toNat + 1 + bn s at_.toNat), at_ + 1 + (bn s at_.toNat : Int))
theorem below_drewN {B : Nat} {a w : World} (h : Below B a w) (n : Nat) : Below B a (w.drewN n) := ⟨h.os, h.tape, h.output, h.size, h.block⟩
theorem tkF_no {s : ByteArray} {a : Int} (h : a < 0 ∨ (s.size : Int) ≤ a ∨ (s.size : Int) - a - 1 < (bn s a.toNat : Int)) : tkF s a = (none8, -1) := by unfold tkF; rw [if_pos h]
theorem tkF_yes {s : ByteArray} {k : Nat} (h : k + 1 + bn s k ≤ s.size) : tkF s (k : Int) = (s.extract (k + 1) (k + 1 + bn s k), ((k + 1 + bn s k : Nat) : Int)) := by
  unfold tkF
  rw [Int.toNat_natCast, if_neg (by omega)]
  simp
set_option maxHeartbeats 1000000 in
theorem took_any (s : ByteArray) (a : Int) (w : World) (hs : s.size ≤ 1000000) (h0 : -1 ≤ a) (h1 : a ≤ 1000000) :
    Calls Tryz.prog 109 #[.string s, .int .i64 a] w fun e w' => e = .returned (.tuple #[.string (tkF s a).1, .int .i64 (tkF s a).2]) ∧ Below w.heap.size w w' := by
  have hb := get_bt s
  by_cases c1 : a < 0
  · rw [tkF_no (.inl c1)]
    go_enter Tryz.func109, Tryz.ntmps109
    go_wp2
    go_ret2
    exact ⟨rfl, Below.refl _ _⟩
  · by_cases c2 : (s.size : Int) ≤ a
    · rw [tkF_no (.inr (.inl c2))]
      go_enter Tryz.func109, Tryz.ntmps109
      go_wp2
      go_ret2
      exact ⟨rfl, Below.refl _ _⟩
    · obtain ⟨k, rfl⟩ : ∃ k : Nat, a = (k : Int) := ⟨a.toNat, by omega⟩
      have i1 : (0 : Int) ≤ (k : Int) := Int.natCast_nonneg _
      have i2 : (k : Int) < (s.size : Int) := by omega
      have hk : k < s.size := by omega
      have b0 := bt_nonneg s k
      have b1 := bt_le s k
      have e1 := bn_bt s k
      by_cases c3 : (s.size : Int) - (k : Int) - 1 < bt s k
      · rw [tkF_no (.inr (.inr (by rw [Int.toNat_natCast, e1]; exact c3)))]
        clear e1
        go_enter Tryz.func109, Tryz.ntmps109
        go_wp2
        go_ret2
        exact ⟨rfl, Below.refl _ _⟩
      · rw [tkF_yes (by omega)]
        obtain ⟨m, hm⟩ : ∃ m : Nat, bn s k = m := ⟨_, rfl⟩
        rw [hm] at e1 ⊢
        rw [← e1] at c3 b1
        have c4 : k + 1 + m ≤ s.size := by omega
        have c5 : m ≤ 255 := by omega
        have E1 := Lib.hid e1
        have hb2 : ∀ (h : k < s.size), ((s[k]'h).toNat : Int) = (m : Int) := fun h => (hb k h).trans e1.symm
        clear e1 hm hb b0
        have j1 : (k : Int) + 1 ≤ (k : Int) + 1 + (m : Int) := by omega
        have j2 : (k : Int) + 1 + (m : Int) ≤ (s.size : Int) := by omega
        have j3 : (0 : Int) ≤ (k : Int) + 1 := by omega
        have t1 : ((k : Int) + 1).toNat = k + 1 := by omega
        have t2 : ((k : Int) + 1 + (m : Int)).toNat = k + 1 + m := by omega
        go_enter Tryz.func109, Tryz.ntmps109
        go_upto_region 3 with (fail)
        go_quiet (fail)
        go_wp2
        go_ret2
        refine ⟨?_, below_drewN (Below.refl _ _) _⟩
        first | rfl | simp
/-- a number from a place on, and the place behind it -/
def n8 (s : ByteArray) (k : Nat) : Nat := bN (((bl s).drop k).take 8)
def ctF (s : ByteArray) (a : Int) : Int × Int :=
  if a < 0 ∨ (s.size : Int) - a < 8 then (0, -1) else if 1099511627776 < n8 s a.toNat then (0, -1) else ((n8 s a.toNat : Int), a + 8)
theorem ctF_no {s : ByteArray} {a : Int} (h : a < 0 ∨ (s.size : Int) - a < 8) : ctF s a = (0, -1) := by unfold ctF; rw [if_pos h]
theorem ctF_big {s : ByteArray} {k : Nat} (h : k + 8 ≤ s.size) (h1 : 1099511627776 < n8 s k) : ctF s (k : Int) = (0, -1) := by
  unfold ctF
  rw [Int.toNat_natCast, if_neg (by omega), if_pos h1]
theorem ctF_yes {s : ByteArray} {k : Nat} (h : k + 8 ≤ s.size) (h1 : ¬ 1099511627776 < n8 s k) : ctF s (k : Int) = ((n8 s k : Int), (k : Int) + 8) := by
  unfold ctF
  rw [Int.toNat_natCast, if_neg (by omega), if_neg h1]
theorem part_snoc {s : ByteArray} {k i : Nat} (h : k + i < s.size) : ((bl s).drop k).take (i + 1) = ((bl s).drop k).take i ++ [bn s (k + i)] := by
  have h1 := bl_snoc s (k + i) h
  have h2 := congrArg (List.drop k) h1
  rw [List.drop_append_of_le_length (by rw [List.length_take, bl_len]; omega), List.drop_take, List.drop_take] at h2
  rw [show k + i + 1 - k = i + 1 by omega, show k + i - k = i by omega] at h2
  exact h2
theorem part_lt (s : ByteArray) (k i : Nat) (hi : i ≤ 8) : bN (((bl s).drop k).take i) < 256 ^ i := by
  have h := bN_lt (((bl s).drop k).take i) (fun x hx => bl_lt s x (List.mem_of_mem_drop (List.mem_of_mem_take hx)))
  have h2 : (((bl s).drop k).take i).length ≤ i := by rw [List.length_take]; omega
  exact Nat.lt_of_lt_of_le h (Nat.pow_le_pow_right (by decide) h2)
theorem wrap_u64 (z : Int) (h0 : 0 ≤ z) (h1 : z < 18446744073709551616) : IntKind.u64.wrap z = z := by
  unfold IntKind.wrap
  simp [IntKind.signed, IntKind.bits]
  omega
theorem or_byteU (a b : Nat) (h0 : a < 72057594037927936) (h1 : b < 256) : bits .or .u64 ((a : Int) * 256) (b : Int) = ((a * 256 + b : Nat) : Int) := by
  show IntKind.u64.wrap ((((BitVec.ofInt 64 ((a : Int) * 256)) ||| (BitVec.ofInt 64 (b : Int))).toNat : Nat) : Int) = _
  rw [BitVec.toNat_or, BitVec.toNat_ofInt, BitVec.toNat_ofInt]
  have hu' : ((((a : Int) * 256)) % ((2 ^ 64 : Nat) : Int)).toNat = a * 256 := by
    rw [show ((2 ^ 64 : Nat) : Int) = 18446744073709551616 by rfl]; omega
  have hc' : ((b : Int) % ((2 ^ 64 : Nat) : Int)).toNat = b := by
    rw [show ((2 ^ 64 : Nat) : Int) = 18446744073709551616 by rfl]; omega
  rw [hu', hc', nat_join 8 (a * 256) b (by omega) h1]
  exact wrap_u64 _ (by omega) (by omega)
set_option maxHeartbeats 1000000 in
theorem counted_any (s : ByteArray) (a : Int) (w : World) (hs : s.size ≤ 1000000) (h0 : -1 ≤ a) (h1 : a ≤ 1000000) :
    Calls Tryz.prog 110 #[.string s, .int .i64 a] w fun e w' => e = .returned (.tuple #[.int .i64 (ctF s a).1, .int .i64 (ctF s a).2]) ∧ Below w.heap.size w w' := by
  have hb := get_bt s
  by_cases c1 : a < 0
  · rw [ctF_no (.inl c1)]
    go_enter Tryz.func110, Tryz.ntmps110
    go_wp2
    go_ret2
    exact ⟨rfl, Below.refl _ _⟩
  · by_cases c2 : (s.size : Int) - a < 8
    · rw [ctF_no (.inr c2)]
      go_enter Tryz.func110, Tryz.ntmps110
      go_wp2
      go_ret2
      exact ⟨rfl, Below.refl _ _⟩
    · obtain ⟨k, rfl⟩ : ∃ k : Nat, a = (k : Int) := ⟨a.toNat, by omega⟩
      have hk : k + 8 ≤ s.size := by omega
      obtain ⟨r, hr⟩ : ∃ r, ctF s (k : Int) = r := ⟨_, rfl⟩
      rw [hr]
      have HR := Lib.hid hr
      clear hr
      go_enter Tryz.func110, Tryz.ntmps110
      go_wp2
      go_loopw [6, 7] (fun x i wr => ∃ j : Nat, j ≤ 8 ∧ x = .int .u64 (bN (((bl s).drop k).take j) : Int) ∧ i = .int .i64 j ∧ w = wr) (fun _ i _ => 8 - (intOf i).toNat)
      case atStart => exact ⟨0, Nat.zero_le _, rfl, rfl, rfl⟩
      case round =>
        obtain ⟨j, hj, rfl, rfl, rfl⟩ := hrel
        by_cases hlt : j < 8
        · have l1 : (j : Int) < 8 := by omega
          have i1 : (0 : Int) ≤ (k : Int) + (j : Int) := by omega
          have i2 : (k : Int) + (j : Int) < (s.size : Int) := by omega
          have ps := part_snoc (s := s) (k := k) (i := j) (by omega)
          have pl := part_lt s k j hj
          have pl2 : 256 ^ j ≤ 256 ^ 7 := Nat.pow_le_pow_right (by decide) (by omega)
          obtain ⟨m, hm⟩ : ∃ m, bN (((bl s).drop k).take j) = m := ⟨_, rfl⟩
          rw [hm] at pl ⊢
          have pm : m < 72057594037927936 := by omega
          have HM := Lib.hid hm
          have HP := Lib.hid ps
          clear hm ps pl pl2
          have t1 : ((k : Int) + (j : Int)).toNat = k + j := by omega
          obtain ⟨b, hbb⟩ : ∃ b, bn s (k + j) = b := ⟨_, rfl⟩
          have HB := Lib.hid hbb
          have hbt : bt s (k + j) = (b : Int) := by rw [← bn_bt, hbb]
          have b1 := bt_le s (k + j)
          rw [hbt] at b1
          clear hbb
          have o1 := or_byteU m b pm (by omega)
          go_wp2
          go_roundw
          case rel => exact ⟨j + 1, by omega, by rw [HP.out, bN_snoc, HM.out, HB.out]; rfl, by go_num, trivial⟩
          case measure => simp [intOf]; omega
        · have l1 : ¬ (j : Int) < 8 := by omega
          have e8 : j = 8 := by omega
          subst e8
          have n8e : bN (((bl s).drop k).take 8) = n8 s k := rfl
          rw [n8e]
          clear n8e
          by_cases c3 : 1099511627776 < n8 s k
          · have er := (HR.out).symm.trans (ctF_big hk c3)
            subst er
            have c4 : (1099511627776 : Int) < (n8 s k : Int) := by omega
            go_wp2
            go_ret2
            exact ⟨rfl, Below.refl _ _⟩
          · have er := (HR.out).symm.trans (ctF_yes hk c3)
            subst er
            have c4 : ¬ (1099511627776 : Int) < (n8 s k : Int) := by omega
            go_wp2
            go_ret2
            exact ⟨rfl, Below.refl _ _⟩
end Go.Proofs.YtdmgobffhpgjlaaGreat.Sl
end

section
namespace Go.Proofs.YtdmgobffhpgjlaaGreat.Sl
open Go.RowKit Go.PlainAid Go.Proofs.YtdmgobffhpgjlaaGreat.Cr
set_option linter.unusedVariables false
set_option maxRecDepth 20000
set_option linter.unusedSimpArgs false

theorem bn_at {s : ByteArray} {k : Nat} (h : k < s.size) : (bl s).drop k = bn s k :: (bl s).drop (k + 1) := by
  have h1 := part_snoc (s := s) (k := k) (i := 0) (by omega)
  have h2 : (bl s).drop k = ((bl s).drop k).take 1 ++ ((bl s).drop k).drop 1 := (List.take_append_drop 1 _).symm
  rw [h2, h1, List.drop_drop]
  simp
theorem tkF_app {s t : ByteArray} {a : Nat} {c : List Nat} (ht : t.size < 256) (ha : a ≤ s.size) (h : (bl s).drop a = txt t ++ c) :
    tkF s (a : Int) = (t, ((a + 1 + t.size : Nat) : Int)) ∧ (bl s).drop (a + 1 + t.size) = c ∧ a + 1 + t.size ≤ s.size := by
  have hl := congrArg List.length h
  rw [List.length_drop, bl_len, List.length_append, txt_len] at hl
  have h1 := bn_at (s := s) (k := a) (by omega)
  rw [h] at h1
  unfold txt at h1
  rw [be_one _ ht, List.singleton_append, List.cons_append] at h1
  injection h1 with e1 e2
  have e3 : (bl s).drop (a + 1 + t.size) = c := by
    rw [← List.drop_drop, ← e2]
    exact List.drop_left' (by rw [bl_len])
  refine ⟨?_, e3, by omega⟩
  rw [tkF_yes (by rw [← e1]; omega), ← e1]
  refine Prod.ext (bl_inj ?_) rfl
  show bl (s.extract (a + 1) (a + 1 + t.size)) = bl t
  rw [bl_extract, ← e2, show a + 1 + t.size - (a + 1) = t.size by omega]
  exact List.take_left' (by rw [bl_len])
theorem tkF_inv {s : ByteArray} {a : Int} (h : 0 ≤ (tkF s a).2) : ∃ n m : Nat, a = (n : Int) ∧ (tkF s a).2 = (m : Int) ∧ m ≤ s.size ∧ (bl s).drop n = txt (tkF s a).1 ++ (bl s).drop m := by
  by_cases c : a < 0 ∨ (s.size : Int) ≤ a ∨ (s.size : Int) - a - 1 < (bn s a.toNat : Int)
  · rw [tkF_no c] at h
    exact absurd h (by decide)
  · obtain ⟨k, rfl⟩ : ∃ k : Nat, a = (k : Int) := ⟨a.toNat, by omega⟩
    rw [Int.toNat_natCast] at c
    have hk : k + 1 + bn s k ≤ s.size := by omega
    rw [tkF_yes hk]
    refine ⟨k, k + 1 + bn s k, rfl, rfl, hk, ?_⟩
    rw [bn_at (by omega)]
    have hs : (s.extract (k + 1) (k + 1 + bn s k)).size = bn s k := by rw [ByteArray.size_extract]; omega
    unfold txt
    rw [hs, be_one _ (by have := bt_le s k; have := bn_bt s k; omega), bl_extract, show k + 1 + bn s k - (k + 1) = bn s k by omega, ← List.drop_drop (i := bn s k), List.append_assoc, List.take_append_drop]
    rfl
theorem tkF_le (s : ByteArray) (a : Int) : -1 ≤ (tkF s a).2 ∧ (tkF s a).2 ≤ s.size := by
  by_cases c : 0 ≤ (tkF s a).2
  · obtain ⟨n, m, _, e, hm, _⟩ := tkF_inv c
    omega
  · have : (tkF s a).2 = -1 := by
      by_cases c2 : a < 0 ∨ (s.size : Int) ≤ a ∨ (s.size : Int) - a - 1 < (bn s a.toNat : Int)
      · rw [tkF_no c2]
      · unfold tkF at c
        rw [if_neg c2] at c
        exact absurd (by show 0 ≤ a + 1 + _; omega) c
    omega
theorem ctF_app {s : ByteArray} {v : Int} {a : Nat} {c : List Nat} (hv : 0 ≤ v ∧ v ≤ 1099511627776) (ha : a ≤ s.size) (h : (bl s).drop a = be 8 v ++ c) :
    ctF s (a : Int) = (v, ((a + 8 : Nat) : Int)) ∧ (bl s).drop (a + 8) = c ∧ a + 8 ≤ s.size := by
  have hl := congrArg List.length h
  rw [List.length_drop, bl_len, List.length_append, be_len] at hl
  have hk : a + 8 ≤ s.size := by omega
  obtain ⟨n, rfl⟩ : ∃ n : Nat, v = (n : Int) := ⟨v.toNat, by omega⟩
  have e8 : n8 s a = n := by
    unfold n8
    rw [h, List.take_left' (be_len _ _)]
    exact bN_be 8 n (by simp; omega)
  refine ⟨?_, ?_, hk⟩
  · rw [ctF_yes hk (by omega), e8]
    rfl
  · rw [← List.drop_drop, h]
    exact List.drop_left' (be_len _ _)
theorem ctF_inv {s : ByteArray} {a : Int} (h : 0 ≤ (ctF s a).2) : ∃ n m : Nat, a = (n : Int) ∧ (ctF s a).2 = (m : Int) ∧ m ≤ s.size ∧ (bl s).drop n = be 8 (ctF s a).1 ++ (bl s).drop m := by
  by_cases c : a < 0 ∨ (s.size : Int) - a < 8
  · rw [ctF_no c] at h
    exact absurd h (by decide)
  · obtain ⟨k, rfl⟩ : ∃ k : Nat, a = (k : Int) := ⟨a.toNat, by omega⟩
    have hk : k + 8 ≤ s.size := by omega
    by_cases c2 : 1099511627776 < n8 s k
    · rw [ctF_big hk c2] at h
      exact absurd h (by decide)
    · rw [ctF_yes hk c2]
      refine ⟨k, k + 8, rfl, by simp, hk, ?_⟩
      have hlen : (((bl s).drop k).take 8).length = 8 := by rw [List.length_take, List.length_drop, bl_len]; omega
      have hb := be_bN (l := ((bl s).drop k).take 8) (fun x hx => bl_lt s x (List.mem_of_mem_drop (List.mem_of_mem_take hx)))
      rw [hlen] at hb
      show _ = be 8 ((bN (((bl s).drop k).take 8) : Nat) : Int) ++ _
      rw [hb, ← List.drop_drop, List.take_append_drop]
theorem ctF_le (s : ByteArray) (a : Int) : -1 ≤ (ctF s a).2 ∧ (ctF s a).2 ≤ s.size := by
  by_cases c : 0 ≤ (ctF s a).2
  · obtain ⟨n, m, _, e, hm, _⟩ := ctF_inv c
    omega
  · have : (ctF s a).2 = -1 := by
      unfold ctF at c ⊢
      split
      · rfl
      · split
        · rfl
        · rename_i h1 h2
          rw [if_neg h1, if_neg h2] at c
          exact absurd (by show 0 ≤ a + 8; omega) c
    omega
/-- a digest from a place on -/
def dgF (s : ByteArray) (a : Int) : List Nat × Int := if 0 ≤ a ∧ 32 ≤ (s.size : Int) - a then (((bl s).drop a.toNat).take 32, a + 32) else (zeros, -1)
theorem dgF_no {s : ByteArray} {a : Int} (h : ¬ (0 ≤ a ∧ 32 ≤ (s.size : Int) - a)) : dgF s a = (zeros, -1) := by unfold dgF; rw [if_neg h]
theorem dgF_yes {s : ByteArray} {k : Nat} (h : k + 32 ≤ s.size) : dgF s (k : Int) = (((bl s).drop k).take 32, ((k + 32 : Nat) : Int)) := by
  unfold dgF
  rw [if_pos (by omega), Int.toNat_natCast]
  rfl
theorem dgF_dig (s : ByteArray) (a : Int) : Dig (dgF s a).1 := by
  by_cases c : 0 ≤ a ∧ 32 ≤ (s.size : Int) - a
  · obtain ⟨k, rfl⟩ : ∃ k : Nat, a = (k : Int) := ⟨a.toNat, by omega⟩
    rw [dgF_yes (by omega)]
    exact ⟨by rw [List.length_take, List.length_drop, bl_len]; omega, fun x hx => bl_lt s x (List.mem_of_mem_drop (List.mem_of_mem_take hx))⟩
  · rw [dgF_no c]
    exact zeros_dig
theorem dgF_app {s : ByteArray} {d : List Nat} {a : Nat} {c : List Nat} (hd : d.length = 32) (ha : a ≤ s.size) (h : (bl s).drop a = d ++ c) :
    dgF s (a : Int) = (d, ((a + 32 : Nat) : Int)) ∧ (bl s).drop (a + 32) = c ∧ a + 32 ≤ s.size := by
  have hl := congrArg List.length h
  rw [List.length_drop, bl_len, List.length_append, hd] at hl
  refine ⟨?_, ?_, by omega⟩
  · rw [dgF_yes (by omega), h, List.take_left' hd]
  · rw [← List.drop_drop, h]
    exact List.drop_left' hd
theorem dgF_inv {s : ByteArray} {a : Int} (h : 0 ≤ (dgF s a).2) : ∃ n m : Nat, a = (n : Int) ∧ (dgF s a).2 = (m : Int) ∧ m ≤ s.size ∧ (bl s).drop n = (dgF s a).1 ++ (bl s).drop m := by
  by_cases c : 0 ≤ a ∧ 32 ≤ (s.size : Int) - a
  · obtain ⟨k, rfl⟩ : ∃ k : Nat, a = (k : Int) := ⟨a.toNat, by omega⟩
    rw [dgF_yes (by omega)]
    refine ⟨k, k + 32, rfl, rfl, by omega, ?_⟩
    rw [← List.drop_drop, List.take_append_drop]
  · rw [dgF_no c] at h
    exact absurd h (by decide)
theorem dgF_le (s : ByteArray) (a : Int) : -1 ≤ (dgF s a).2 ∧ (dgF s a).2 ≤ s.size := by
  by_cases c : 0 ≤ (dgF s a).2
  · obtain ⟨n, m, _, e, hm, _⟩ := dgF_inv c
    omega
  · have : (dgF s a).2 = -1 := by
      unfold dgF at c ⊢
      split
      · rename_i h1
        rw [if_pos h1] at c
        exact absurd (by show 0 ≤ a + 32; omega) c
      · rfl
    omega
/-! ### the whole body -/
def uT (k : Int) (s : ByteArray) : (ByteArray × ByteArray) × Int := if hT k then (((tkF s 1).1, (tkF s (tkF s 1).2).1), (tkF s (tkF s 1).2).2) else ((none8, none8), 1)
def uD (k : Int) (s : ByteArray) (a : Int) : List Nat × Int := if hD k then dgF s a else (zeros, a)
def uM (k : Int) (s : ByteArray) (a : Int) : (ByteArray × Int) × Int := if hM k then (((tkF s a).1, (ctF s (tkF s a).2).1), (ctF s (tkF s a).2).2) else ((none8, 0), a)
def uA (k : Int) (s : ByteArray) (a : Int) : Int × Int := if hA k then ctF s a else (0, a)
theorem uT_app {k : Int} {s : ByteArray} {r t : ByteArray} {c : List Nat} (hn : hT k = true → r.size < 256 ∧ t.size < 256) (h0 : hT k = false → r = none8 ∧ t = none8) (h1 : 1 ≤ s.size) (h : (bl s).drop 1 = (if hT k then txt r ++ txt t else []) ++ c) :
    (uT k s).1 = (r, t) ∧ ∃ n : Nat, (uT k s).2 = (n : Int) ∧ n ≤ s.size ∧ (bl s).drop n = c := by
  unfold uT
  cases e : hT k
  · obtain ⟨rfl, rfl⟩ := h0 e
    rw [e] at h
    exact ⟨rfl, 1, rfl, h1, by simpa using h⟩
  · rw [e] at h
    obtain ⟨n1, n2⟩ := hn e
    simp only [if_true, List.append_assoc] at h
    obtain ⟨a1, a2, a3⟩ := tkF_app n1 h1 h
    obtain ⟨b1, b2, b3⟩ := tkF_app n2 a3 a2
    simp only [if_true]
    rw [show (1 : Int) = ((1 : Nat) : Int) from rfl, a1]
    show ((r, (tkF s _).1) = _) ∧ _
    rw [b1]
    exact ⟨rfl, _, rfl, b3, b2⟩
theorem uT_inv {k : Int} {s : ByteArray} (hs : 1 ≤ s.size) (h : 0 ≤ (uT k s).2) : ∃ n : Nat, (uT k s).2 = (n : Int) ∧ n ≤ s.size ∧ (bl s).drop 1 = (if hT k then txt (uT k s).1.1 ++ txt (uT k s).1.2 else []) ++ (bl s).drop n := by
  unfold uT at h ⊢
  cases e : hT k
  · exact ⟨1, rfl, hs, by simp⟩
  · rw [e] at h
    simp only [if_true] at h ⊢
    obtain ⟨n, m, e1, e2, hm, hd⟩ := tkF_inv h
    obtain ⟨n', m', e3, e4, hm', hd'⟩ := tkF_inv (s := s) (a := 1) (by omega)
    have : n' = 1 := by omega
    subst this
    have : m' = n := by omega
    subst this
    exact ⟨m, e2, hm, by rw [hd', hd, List.append_assoc]⟩
theorem uD_app {k : Int} {s : ByteArray} {d : List Nat} {a : Nat} {c : List Nat} (hd : d.length = 32) (h0 : hD k = false → d = zeros) (h1 : a ≤ s.size) (h : (bl s).drop a = (if hD k then d else []) ++ c) :
    (uD k s (a : Int)).1 = d ∧ ∃ n : Nat, (uD k s (a : Int)).2 = (n : Int) ∧ n ≤ s.size ∧ (bl s).drop n = c := by
  unfold uD
  cases e : hD k
  · have := h0 e
    subst this
    rw [e] at h
    exact ⟨rfl, a, rfl, h1, by simpa using h⟩
  · rw [e] at h
    simp only [if_true] at h ⊢
    obtain ⟨a1, a2, a3⟩ := dgF_app hd h1 h
    rw [a1]
    exact ⟨rfl, _, rfl, a3, a2⟩
theorem uD_inv {k : Int} {s : ByteArray} {a : Int} (ha : a ≤ s.size) (h : 0 ≤ (uD k s a).2) : ∃ n m : Nat, a = (n : Int) ∧ (uD k s a).2 = (m : Int) ∧ m ≤ s.size ∧ (bl s).drop n = (if hD k then (uD k s a).1 else []) ++ (bl s).drop m := by
  unfold uD at h ⊢
  cases e : hD k
  · rw [e] at h
    have h' : 0 ≤ a := h
    exact ⟨a.toNat, a.toNat, by omega, by show a = _; omega, by omega, by simp⟩
  · rw [e] at h
    simp only [if_true] at h ⊢
    exact dgF_inv h
theorem uM_app {k : Int} {s : ByteArray} {t : ByteArray} {v : Int} {a : Nat} {c : List Nat} (ht : t.size < 256) (hv : 0 ≤ v ∧ v ≤ 1099511627776) (h0 : hM k = false → t = none8 ∧ v = 0) (h1 : a ≤ s.size) (h : (bl s).drop a = (if hM k then txt t ++ be 8 v else []) ++ c) :
    (uM k s (a : Int)).1 = (t, v) ∧ ∃ n : Nat, (uM k s (a : Int)).2 = (n : Int) ∧ n ≤ s.size ∧ (bl s).drop n = c := by
  unfold uM
  cases e : hM k
  · obtain ⟨rfl, rfl⟩ := h0 e
    rw [e] at h
    exact ⟨rfl, a, rfl, h1, by simpa using h⟩
  · rw [e] at h
    simp only [if_true, List.append_assoc] at h ⊢
    obtain ⟨a1, a2, a3⟩ := tkF_app ht h1 h
    obtain ⟨b1, b2, b3⟩ := ctF_app hv a3 a2
    rw [a1]
    show ((t, (ctF s _).1) = _) ∧ _
    rw [b1]
    exact ⟨rfl, _, rfl, b3, b2⟩
theorem uM_inv {k : Int} {s : ByteArray} {a : Int} (ha : a ≤ s.size) (h : 0 ≤ (uM k s a).2) : ∃ n m : Nat, a = (n : Int) ∧ (uM k s a).2 = (m : Int) ∧ m ≤ s.size ∧ (bl s).drop n = (if hM k then txt (uM k s a).1.1 ++ be 8 (uM k s a).1.2 else []) ++ (bl s).drop m := by
  unfold uM at h ⊢
  cases e : hM k
  · rw [e] at h
    have h' : 0 ≤ a := h
    exact ⟨a.toNat, a.toNat, by omega, by show a = _; omega, by omega, by simp⟩
  · rw [e] at h
    simp only [if_true] at h ⊢
    obtain ⟨n, m, e1, e2, hm, hd⟩ := ctF_inv h
    obtain ⟨n', m', e3, e4, hm', hd'⟩ := tkF_inv (s := s) (a := a) (by omega)
    have : m' = n := by omega
    subst this
    exact ⟨n', m, e3, e2, hm, by rw [hd', hd, List.append_assoc]⟩
theorem uA_app {k : Int} {s : ByteArray} {v : Int} {a : Nat} {c : List Nat} (hv : 0 ≤ v ∧ v ≤ 1099511627776) (h0 : hA k = false → v = 0) (h1 : a ≤ s.size) (h : (bl s).drop a = (if hA k then be 8 v else []) ++ c) :
    (uA k s (a : Int)).1 = v ∧ ∃ n : Nat, (uA k s (a : Int)).2 = (n : Int) ∧ n ≤ s.size ∧ (bl s).drop n = c := by
  unfold uA
  cases e : hA k
  · have := h0 e
    subst this
    rw [e] at h
    exact ⟨rfl, a, rfl, h1, by simpa using h⟩
  · rw [e] at h
    simp only [if_true] at h ⊢
    obtain ⟨a1, a2, a3⟩ := ctF_app hv h1 h
    rw [a1]
    exact ⟨rfl, _, rfl, a3, a2⟩
theorem uA_inv {k : Int} {s : ByteArray} {a : Int} (ha : a ≤ s.size) (h : 0 ≤ (uA k s a).2) : ∃ n m : Nat, a = (n : Int) ∧ (uA k s a).2 = (m : Int) ∧ m ≤ s.size ∧ (bl s).drop n = (if hA k then be 8 (uA k s a).1 else []) ++ (bl s).drop m := by
  unfold uA at h ⊢
  cases e : hA k
  · rw [e] at h
    have h' : 0 ≤ a := h
    exact ⟨a.toNat, a.toNat, by omega, by show a = _; omega, by omega, by simp⟩
  · rw [e] at h
    simp only [if_true] at h ⊢
    exact ctF_inv h
def psK (s : ByteArray) : Int := (bn s 0 : Int)
def ps1 (s : ByteArray) : Int := (uT (psK s) s).2
def ps2 (s : ByteArray) : Int := (uD (psK s) s (ps1 s)).2
def ps3 (s : ByteArray) : Int := (uM (psK s) s (ps2 s)).2
def psA (s : ByteArray) : Int := (uA (psK s) s (ps3 s)).2
def psX (s : ByteArray) : Sp := ⟨psK s, (uT (psK s) s).1.1, (uT (psK s) s).1.2, (uD (psK s) s (ps1 s)).1, (uM (psK s) s (ps2 s)).1.1, (uM (psK s) s (ps2 s)).1.2, (uA (psK s) s (ps3 s)).1⟩
theorem ps1_le (s : ByteArray) (hs : 1 ≤ s.size) : -1 ≤ ps1 s ∧ ps1 s ≤ s.size := by
  unfold ps1 uT
  split
  · exact tkF_le _ _
  · show -1 ≤ (1 : Int) ∧ (1 : Int) ≤ _
    omega
theorem ps2_le (s : ByteArray) (hs : 1 ≤ s.size) : -1 ≤ ps2 s ∧ ps2 s ≤ s.size := by
  unfold ps2 uD
  split
  · exact dgF_le _ _
  · exact ps1_le s hs
theorem ps3_le (s : ByteArray) (hs : 1 ≤ s.size) : -1 ≤ ps3 s ∧ ps3 s ≤ s.size := by
  unfold ps3 uM
  split
  · exact ctF_le _ _
  · exact ps2_le s hs
theorem psA_le (s : ByteArray) (hs : 1 ≤ s.size) : -1 ≤ psA s ∧ psA s ≤ s.size := by
  unfold psA uA
  split
  · exact ctF_le _ _
  · exact ps3_le s hs
theorem ps_app {s : ByteArray} {x : Sp} (hx : Can x) (h : bl s = bodyL x) : psX s = x ∧ psA s = s.size := by
  have hk := hx.k
  have hl : 1 ≤ s.size := by have := (body_len hx).1; rw [← h, bl_len] at this; omega
  have h' : (bl s).drop 0 = be 1 x.k ++ (pT x ++ (pD x ++ (pM x ++ (pA x ++ [])))) := by
    rw [List.drop_zero, h]
    unfold bodyL
    simp [List.append_assoc]
  obtain ⟨k, hkk⟩ : ∃ k : Nat, x.k = (k : Int) := ⟨x.k.toNat, by omega⟩
  rw [bn_at (by omega), hkk, be_one _ (by omega), List.singleton_append] at h'
  injection h' with e0 a2
  have a1 : psK s = x.k := by unfold psK; rw [e0, hkk]
  have hn : hT x.k = true → x.repo.size < 256 ∧ x.tag.size < 256 := fun e => by have := hx.names e; omega
  have t1 := hx.ty; have t2 := hx.sz; have t3 := hx.tm
  obtain ⟨b1, n1, b2, b3, b4⟩ := uT_app (k := x.k) hn hx.noNames hl a2
  obtain ⟨c1, n2, c2, c3, c4⟩ := uD_app (k := x.k) hx.dig.len hx.noDig b3 b4
  obtain ⟨d1, n3, d2, d3, d4⟩ := uM_app (k := x.k) (by omega) (by omega) hx.noMedia c3 c4
  obtain ⟨f1, n4, f2, f3, f4⟩ := uA_app (k := x.k) (by omega) hx.noTime d3 d4
  have e1 : ps1 s = (n1 : Int) := by unfold ps1; rw [a1, b2]
  have e2 : ps2 s = (n2 : Int) := by unfold ps2; rw [a1, e1, c2]
  have e3 : ps3 s = (n3 : Int) := by unfold ps3; rw [a1, e2, d2]
  refine ⟨?_, ?_⟩
  · unfold psX
    rw [a1, e1, e2, e3, b1, c1, d1, f1]
  · unfold psA
    rw [a1, e3, f2]
    have := congrArg List.length f4
    rw [List.length_drop, bl_len] at this
    simp at this
    omega
theorem ps_inv {s : ByteArray} (hs : 1 ≤ s.size) (h : psA s = s.size) : bl s = bodyL (psX s) := by
  obtain ⟨n3, n4, f1, f2, f3, f4⟩ := uA_inv (k := psK s) (ps3_le s hs).2 (show 0 ≤ psA s by omega)
  obtain ⟨n2, n3', d1, d2, d3, d4⟩ := uM_inv (k := psK s) (ps2_le s hs).2 (show 0 ≤ ps3 s by omega)
  obtain ⟨n1, n2', c1, c2, c3, c4⟩ := uD_inv (k := psK s) (ps1_le s hs).2 (show 0 ≤ ps2 s by omega)
  obtain ⟨n1', b1, b2, b3⟩ := uT_inv (k := psK s) hs (show 0 ≤ ps1 s by omega)
  have b1' : ps1 s = _ := b1
  have c2' : ps2 s = _ := c2
  have d2' : ps3 s = _ := d2
  have f2' : psA s = _ := f2
  have q1 : n1' = n1 := by omega
  have q2 : n2' = n2 := by omega
  have q3 : n3' = n3 := by omega
  subst q1 q2 q3
  have q4 : (bl s).drop n4 = [] := List.drop_of_length_le (by rw [bl_len]; omega)
  have h0 : bl s = (bl s).drop 0 := rfl
  rw [h0, bn_at (by omega), show (0 + 1 : Nat) = 1 from rfl, b3, c4, d4, f4, q4]
  unfold bodyL pT pD pM pA psX
  rw [show be 1 (psK s) = [bn s 0] from be_one _ (by have := bt_le s 0; have := bn_bt s 0; omega)]
  simp [List.append_assoc]
end Go.Proofs.YtdmgobffhpgjlaaGreat.Sl
end
