/-
  CRC-32 as plain functions of numbers and lists: a step, the sum of bytes; it is linear, a number's own bytes are its steps, no step makes 0 of a number but 0. No program is spoken of.
  Contracts of crc.step, crc.eightSteps and crc.More: what they answer for every argument. They compute, and change nothing.
  Contracts of Tail, the program's and the document's: a number's four bytes, the lowest first.
  Contract of crc.Ends: whether the last four bytes are Tail of the sum of those ahead.
  The document's examples of layer 3: awake answers true. And the document's More.
  Rows of bytes that came of a text and are written to; a burst laid over bytes: in plain terms.
-/
import Derived.WalkKit
import Derived.Laws.BitsAllLaws
import Derived.Test.YtdmgobffhpgjlaaRows
import Derived.Lib.Hide
import Derived.PlainAid
import Derived.Lib.ConvBytes
import Derived.Laws.IdiomStrings
import Derived.OrdersHeld
import Derived.Deep.DeepCutAuto
section
namespace Go.Proofs.Ytdmgobffhpgjlaa.Cr
open Go.RowKit
set_option linter.unusedVariables false
set_option maxRecDepth 20000

/-- a step -/
def stp (n : Nat) : Nat := (n / 2) ^^^ (if n % 2 = 1 then 3988292384 else 0)
def stpN : Nat → Nat → Nat
  | 0, n => n
  | k + 1, n => stpN k (stp n)
def eight (n : Nat) : Nat := stpN 8 n
/-- a sum's inside from n on, over bytes -/
def crcL (n : Nat) (l : List Nat) : Nat := l.foldl (fun n b => eight (n ^^^ b)) n
/-- the sum from sum on -/
def mor (sum : Nat) (l : List Nat) : Nat := crcL (sum ^^^ 4294967295) l ^^^ 4294967295

theorem xor_lt {a b : Nat} (ha : a < 4294967296) (hb : b < 4294967296) : a ^^^ b < 4294967296 := Nat.xor_lt_two_pow (n := 32) ha hb
theorem stp_odd {n : Nat} (h : n % 2 = 1) : stp n = (n / 2) ^^^ 3988292384 := by unfold stp; rw [if_pos h]
theorem stp_even {n : Nat} (h : n % 2 = 0) : stp n = n / 2 := by unfold stp; rw [if_neg (by omega)]; simp
theorem stp_lt {n : Nat} (h : n < 4294967296) : stp n < 4294967296 := by
  unfold stp
  refine xor_lt (by omega) ?_
  split <;> decide
theorem stpN_lt : ∀ (k : Nat) {n : Nat}, n < 4294967296 → stpN k n < 4294967296
  | 0, n, h => h
  | k + 1, n, h => stpN_lt k (stp_lt h)
theorem stpN_add : ∀ (j k n : Nat), stpN (j + k) n = stpN k (stpN j n)
  | 0, k, n => by rw [Nat.zero_add]; rfl
  | j + 1, k, n => by
    rw [show j + 1 + k = (j + k) + 1 by omega]
    exact stpN_add j k (stp n)
theorem eight_lt {n : Nat} (h : n < 4294967296) : eight n < 4294967296 := stpN_lt 8 h
theorem crcL_lt : ∀ (l : List Nat) {n : Nat}, n < 4294967296 → (∀ x ∈ l, x < 256) → crcL n l < 4294967296
  | [], n, h, _ => h
  | b :: l, n, h, hl => by
    have hb := hl b (by simp)
    exact crcL_lt l (eight_lt (xor_lt h (by omega))) (fun x hx => hl x (by simp [hx]))
theorem crcL_append (n : Nat) (a b : List Nat) : crcL n (a ++ b) = crcL (crcL n a) b := by unfold crcL; rw [List.foldl_append]
theorem crcL_cons (n b : Nat) (l : List Nat) : crcL n (b :: l) = crcL (eight (n ^^^ b)) l := rfl
theorem crcL_nil (n : Nat) : crcL n [] = n := rfl
theorem crcL_snoc (n b : Nat) (l : List Nat) : crcL n (l ++ [b]) = eight (crcL n l ^^^ b) := by rw [crcL_append]; rfl
theorem xx (a b : Nat) : a ^^^ b ^^^ b = a := by rw [Nat.xor_assoc, Nat.xor_self, Nat.xor_zero]
theorem mor_append (n : Nat) (a b : List Nat) : mor (mor n a) b = mor n (a ++ b) := by
  unfold mor
  rw [xx, crcL_append]
theorem mor_lt {n : Nat} {l : List Nat} (h : n < 4294967296) (hl : ∀ x ∈ l, x < 256) : mor n l < 4294967296 := xor_lt (crcL_lt l (xor_lt h (by decide)) hl) (by decide)
theorem mor_nil (n : Nat) : mor n [] = n := by unfold mor; rw [crcL_nil, xx]

/-! linear -/
theorem xor_half (a b : Nat) : (a ^^^ b) / 2 = (a / 2) ^^^ (b / 2) := by
  have := Nat.xor_div_two_pow (a := a) (b := b) (n := 1)
  simpa using this
theorem xor_odd (a b : Nat) : (a ^^^ b) % 2 = (a + b) % 2 := by
  have := Nat.xor_mod_two_pow (a := a) (b := b) (n := 1)
  rw [Nat.pow_one] at this
  rw [this, Nat.add_mod]
  have ha := Nat.mod_two_eq_zero_or_one a
  have hb := Nat.mod_two_eq_zero_or_one b
  rcases ha with ha | ha <;> rcases hb with hb | hb <;> rw [ha, hb] <;> decide
theorem x4 (a b c d : Nat) : (a ^^^ b) ^^^ (c ^^^ d) = (a ^^^ c) ^^^ (b ^^^ d) := by
  rw [Nat.xor_assoc, Nat.xor_assoc, ← Nat.xor_assoc b, Nat.xor_comm b c, Nat.xor_assoc c]
theorem stp_xor (a b : Nat) : stp (a ^^^ b) = stp a ^^^ stp b := by
  unfold stp
  rw [xor_half, xor_odd, x4]
  congr 1
  rcases Nat.mod_two_eq_zero_or_one a with ha | ha <;> rcases Nat.mod_two_eq_zero_or_one b with hb | hb
  · rw [if_neg (by omega), if_neg (by omega), if_neg (by omega)]; decide
  · rw [if_pos (by omega), if_neg (by omega), if_pos (by omega)]; decide
  · rw [if_pos (by omega), if_pos (by omega), if_neg (by omega)]; decide
  · rw [if_neg (by omega), if_pos (by omega), if_pos (by omega)]; decide
theorem stpN_xor : ∀ (k a b : Nat), stpN k (a ^^^ b) = stpN k a ^^^ stpN k b
  | 0, a, b => rfl
  | k + 1, a, b => by
    show stpN k (stp (a ^^^ b)) = _
    rw [stp_xor]
    exact stpN_xor k (stp a) (stp b)
theorem eight_xor (a b : Nat) : eight (a ^^^ b) = eight a ^^^ eight b := stpN_xor 8 a b
theorem crcL_xor : ∀ (l r : List Nat) (a b : Nat), l.length = r.length → crcL (a ^^^ b) (List.zipWith (· ^^^ ·) l r) = crcL a l ^^^ crcL b r
  | [], [], a, b, _ => rfl
  | x :: l, y :: r, a, b, h => by
    rw [List.zipWith_cons_cons, crcL_cons, crcL_cons, crcL_cons, x4, eight_xor]
    exact crcL_xor l r _ _ (by simpa using h)

/-! a number's own bytes -/
def le : Nat → Nat → List Nat
  | 0, _ => []
  | k + 1, n => n % 256 :: le k (n / 256)
theorem stp_dbl (v : Nat) : stp (2 * v) = v := by rw [stp_even (by omega)]; omega
theorem stpN_shl : ∀ (k v : Nat), stpN k (v * 2 ^ k) = v
  | 0, v => by simp [stpN]
  | k + 1, v => by
    show stpN k (stp _) = v
    rw [show v * 2 ^ (k + 1) = 2 * (v * 2 ^ k) by rw [Nat.pow_succ]; rw [← Nat.mul_assoc, Nat.mul_comm]]
    rw [stp_dbl]
    exact stpN_shl k v
theorem low_xor (n : Nat) : (n % 256) ^^^ (n / 256 * 256) = n := by
  apply Nat.eq_of_testBit_eq
  intro i
  rw [Nat.testBit_xor, show (256 : Nat) = 2 ^ 8 by decide, Nat.testBit_mod_two_pow, Nat.testBit_mul_two_pow, Nat.testBit_div_two_pow]
  by_cases h : i < 8
  · simp [h, show ¬ 8 ≤ i by omega]
  · simp [h, show 8 ≤ i by omega, show i - 8 + 8 = i by omega]
theorem crcL_le : ∀ (k n x : Nat), n < 256 ^ k → crcL x (le k n) = stpN (8 * k) (x ^^^ n)
  | 0, n, x, h => by
    have : n = 0 := by simpa using h
    subst this; simp [le, crcL_nil, stpN]
  | k + 1, n, x, h => by
    show crcL x (n % 256 :: le k (n / 256)) = _
    rw [crcL_cons, crcL_le k (n / 256) _ (by rw [Nat.pow_succ] at h; omega), show 8 * (k + 1) = 8 + 8 * k by omega, stpN_add]
    congr 1
    have e : eight (n / 256 * 256) = n / 256 := stpN_shl 8 (n / 256)
    rw [show x ^^^ n = (x ^^^ n % 256) ^^^ (n / 256 * 256) by rw [Nat.xor_assoc, low_xor]]
    show _ = eight _
    rw [eight_xor (x ^^^ n % 256), e]

/-! behind the tail of its sum -/
theorem behind (l : List Nat) (hl : ∀ x ∈ l, x < 256) : mor (mor 0 l) (le 4 (mor 0 l)) = 558161692 := by
  have h := mor_lt (n := 0) (l := l) (by decide) hl
  have e : mor 0 l ^^^ 4294967295 ^^^ mor 0 l = 4294967295 := by
    rw [Nat.xor_comm (mor 0 l), xx]
  show crcL (mor 0 l ^^^ 4294967295) (le 4 (mor 0 l)) ^^^ 4294967295 = _
  rw [crcL_le 4 _ _ (by simpa using h), e]
  decide +kernel

/-! a burst -/
theorem stp_ne {n : Nat} (h : n < 4294967296) (h0 : n ≠ 0) : stp n ≠ 0 := by
  rcases Nat.mod_two_eq_zero_or_one n with e | e
  · rw [stp_even e]; omega
  · rw [stp_odd e]
    intro c
    have : n / 2 = 3988292384 := by
      have := congrArg (· ^^^ 3988292384) c
      simp only [xx, Nat.zero_xor] at this
      exact this
    omega
theorem stpN_ne : ∀ (k : Nat) {n : Nat}, n < 4294967296 → n ≠ 0 → stpN k n ≠ 0
  | 0, n, _, h => h
  | k + 1, n, h, h0 => stpN_ne k (stp_lt h) (stp_ne h h0)
theorem zeros_ne : ∀ (k : Nat) {n : Nat}, n < 4294967296 → n ≠ 0 → crcL n (List.replicate k 0) ≠ 0
  | 0, n, _, h => h
  | k + 1, n, h, h0 => by
    rw [List.replicate_succ, crcL_cons, Nat.xor_zero]
    exact zeros_ne k (eight_lt h) (stpN_ne 8 h h0)
theorem zeros_zero : ∀ (k : Nat), crcL 0 (List.replicate k 0) = 0
  | 0 => rfl
  | k + 1 => by
    rw [List.replicate_succ, crcL_cons]
    exact zeros_zero k
/-- the sum's inside over zeros, k bytes of a number that is a mask shifted by r, and zeros again -/
theorem burst_ne (i j k mask r : Nat) (h0 : mask ≠ 0) (h1 : mask < 4294967296) (hr : r ≤ 8 * k) (hk : mask * 2 ^ r < 256 ^ k) :
    crcL 0 (List.replicate i 0 ++ le k (mask * 2 ^ r) ++ List.replicate j 0) ≠ 0 := by
  rw [crcL_append, crcL_append, zeros_zero, crcL_le k _ _ hk, Nat.zero_xor, show 8 * k = r + (8 * k - r) by omega, stpN_add, stpN_shl]
  exact zeros_ne j (stpN_lt _ h1) (stpN_ne _ h1 h0)
theorem xor_ne {a b : Nat} (h : a ^^^ b ≠ 0) : a ≠ b := by
  intro e; subst e; exact h (Nat.xor_self a)
theorem stpN_snoc (k n : Nat) : stpN (k + 1) n = stp (stpN k n) := stpN_add k 1 n
theorem stpN_zero (n : Nat) : stpN 0 n = n := rfl
attribute [irreducible] stpN crcL
end Go.Proofs.Ytdmgobffhpgjlaa.Cr
end

section
namespace Go.Proofs.Ytdmgobffhpgjlaa.Cr
open Go.RowKit Go.PlainAid
set_option linter.unusedVariables false
set_option maxRecDepth 20000

theorem ret_int {k : IntKind} {a b : Int} (h : a = b) : Ending.returned (.int k a) = .returned (.int k b) := by rw [h]
theorem wxor {a b : Nat} (ha : a < 4294967296) (hb : b < 4294967296) : bits .xor .u32 (a : Int) (b : Int) = ((a ^^^ b : Nat) : Int) := u32_xor_nat a b ha hb
theorem wand1 {a : Nat} (ha : a < 4294967296) : bits .and .u32 (a : Int) 1 = ((a % 2 : Nat) : Int) := by
  have := u32_and_nat a 1 ha (by decide)
  rw [Nat.and_one_is_mod] at this
  exact this
theorem wones {a : Nat} (ha : a < 4294967296) : bits .xor .u32 (a : Int) 4294967295 = ((a ^^^ 4294967295 : Nat) : Int) := wxor ha (by decide)

theorem step_any (n : Nat) (w : World) (h : n < 4294967296) :
    Calls Try.prog 81 #[.int .u32 n] w fun e w' => e = .returned (.int .u32 (stp n : Nat)) ∧ w = w' := by
  have e1 := wand1 h
  rcases Nat.mod_two_eq_zero_or_one n with e | e
  · rw [e] at e1
    go_enter Try.func81, Try.ntmps81
    go_wp2
    go_ret
    refine ⟨ret_int ?_, rfl⟩
    rw [stp_even e]; omega
  · rw [e] at e1
    go_enter Try.func81, Try.ntmps81
    go_wp2
    go_ret
    refine ⟨ret_int ?_, rfl⟩
    rw [stp_odd e, show (n : Int) / 2 = ((n / 2 : Nat) : Int) by omega]
    exact wxor (by omega) (by decide)

theorem eight_any (n : Nat) (w : World) (h : n < 4294967296) :
    Calls Try.prog 75 #[.int .u32 n] w fun e w' => e = .returned (.int .u32 (eight n : Nat)) ∧ w = w' := by
  go_enter Try.func75, Try.ntmps75
  go_wp2
  go_loopw [0, 3] (fun x i wr => ∃ k : Nat, k ≤ 8 ∧ x = .int .u32 (stpN k n : Nat) ∧ i = .int .i64 k ∧ w = wr) (fun _ i _ => 8 - (intOf i).toNat)
  case atStart => exact ⟨0, by decide, by rw [stpN_zero], rfl, rfl⟩
  case round =>
    obtain ⟨k, hk, rfl, rfl, rfl⟩ := hrel
    by_cases hlt : k < 8
    · have l1 : (k : Int) < 8 := by omega
      go_wp2_with fail
      refine (step_any (stpN k n) _ (stpN_lt k h)).mono ?_
      rintro e w' ⟨rfl, rfl⟩
      go_wp2
      go_roundw
      case rel => exact ⟨k + 1, by omega, by rw [stpN_snoc], by go_num, trivial⟩
      case measure => simp [intOf]; omega
    · obtain rfl : k = 8 := by omega
      go_wp2
      go_ret
      exact ⟨rfl, rfl⟩

/-- the bytes of a text, as numbers -/
def bl (s : ByteArray) : List Nat := s.data.toList.map UInt8.toNat
theorem bl_len (s : ByteArray) : (bl s).length = s.size := by simp [bl]
theorem bl_lt (s : ByteArray) : ∀ x ∈ bl s, x < 256 := by
  intro x hx
  simp only [bl, List.mem_map] at hx
  obtain ⟨c, _, rfl⟩ := hx
  exact c.toNat_lt
def bn (s : ByteArray) (k : Nat) : Nat := (bt s k).toNat
theorem bn_bt (s : ByteArray) (k : Nat) : ((bn s k : Nat) : Int) = bt s k := by
  have := bt_nonneg s k
  unfold bn; omega
theorem bn_lt (s : ByteArray) (k : Nat) : bn s k < 256 := by
  have := bt_le s k
  have := bt_nonneg s k
  unfold bn; omega
theorem bl_snoc (s : ByteArray) (k : Nat) (h : k < s.size) : (bl s).take (k + 1) = (bl s).take k ++ [bn s k] := by
  rw [List.take_succ_eq_append_getElem (by rw [bl_len]; exact h)]
  congr 2
  unfold bn bt
  rw [dif_pos h]
  simp only [bl, List.getElem_map]
  rfl
theorem bl_take_lt (s : ByteArray) (k : Nat) : ∀ x ∈ (bl s).take k, x < 256 := fun x hx => bl_lt s x (List.mem_of_mem_take hx)

theorem more_any (sum : Nat) (s : ByteArray) (w : World) (h : sum < 4294967296) (hs : s.size ≤ 9223372036854775807) :
    Calls Try.prog 66 #[.int .u32 sum, .string s] w fun e w' => e = .returned (.int .u32 (mor sum (bl s) : Nat)) ∧ w = w' := by
  have e0 := wones h
  have hb := get_bt s
  go_enter Try.func66, Try.ntmps66
  go_wp2
  go_loopw [5, 6] (fun x i wr => ∃ k : Nat, k ≤ s.size ∧ x = .int .u32 (crcL (sum ^^^ 4294967295) ((bl s).take k) : Nat) ∧ i = .int .i64 k ∧ w = wr) (fun _ i _ => s.size - (intOf i).toNat)
  case atStart => exact ⟨0, Nat.zero_le _, by rw [List.take_zero, crcL_nil], rfl, rfl⟩
  case round =>
    obtain ⟨k, hk, rfl, rfl, rfl⟩ := hrel
    have hc := crcL_lt ((bl s).take k) (xor_lt h (show 4294967295 < 4294967296 by decide)) (bl_take_lt s k)
    by_cases hlt : k < s.size
    · have l1 : (k : Int) < (s.size : Int) := by omega
      have i1 : (0 : Int) ≤ (k : Int) := Int.natCast_nonneg _
      have b0 := bt_nonneg s k
      have b1 := bt_le s k
      have b2 := bn_lt s k
      have e1 : bits .xor .u32 ((crcL (sum ^^^ 4294967295) ((bl s).take k) : Nat) : Int) (bt s k) = ((crcL (sum ^^^ 4294967295) ((bl s).take k) ^^^ bn s k : Nat) : Int) := by
        rw [← bn_bt]; exact wxor hc (by omega)
      go_wp2_with fail
      refine (eight_any (crcL (sum ^^^ 4294967295) ((bl s).take k) ^^^ bn s k) _ (xor_lt hc (by omega))).mono ?_
      rintro e w' ⟨rfl, rfl⟩
      go_wp2
      go_roundw
      case rel => exact ⟨k + 1, by omega, by rw [bl_snoc s k hlt, crcL_snoc], by go_num, trivial⟩
      case measure => simp [intOf]; omega
    · have l1 : ¬ (k : Int) < (s.size : Int) := by omega
      have e2 := wones hc
      have e3 : (bl s).take k = bl s := List.take_of_length_le (by rw [bl_len]; omega)
      rw [e3] at e2
      rw [e3]
      clear e3
      go_wp2
      go_ret
      exact ⟨rfl, rfl⟩
end Go.Proofs.Ytdmgobffhpgjlaa.Cr
end

section
namespace Go.Proofs.Ytdmgobffhpgjlaa.Cr
open Go.RowKit Go.PlainAid
set_option linter.unusedVariables false
set_option maxRecDepth 20000

/-- the text of bytes that are numbers -/
def strOf (l : List Nat) : ByteArray := ⟨(l.map UInt8.ofNat).toArray⟩
theorem strOf_size (l : List Nat) : (strOf l).size = l.length := by simp [strOf, ByteArray.size]
theorem bl_strOf {l : List Nat} (h : ∀ x ∈ l, x < 256) : bl (strOf l) = l := by
  simp only [bl, strOf, List.map_map]
  refine (List.map_congr_left (g := id) fun x hx => ?_).trans (List.map_id _)
  simp [UInt8.toNat_ofNat', Nat.mod_eq_of_lt (h x hx)]
/-- Tail -/
def tl (n : Nat) : ByteArray := strOf (le 4 n)
theorem le_len : ∀ (k n : Nat), (le k n).length = k
  | 0, _ => rfl
  | k + 1, n => by simp [le, le_len k]
theorem le_lt : ∀ (k n : Nat), ∀ x ∈ le k n, x < 256
  | 0, _, x, h => by simp [le] at h
  | k + 1, n, x, h => by
    simp only [le, List.mem_cons] at h
    rcases h with rfl | h
    · exact Nat.mod_lt _ (by decide)
    · exact le_lt k _ x h
theorem tl_size (n : Nat) : (tl n).size = 4 := by unfold tl; rw [strOf_size, le_len]
theorem bl_tl (n : Nat) : bl (tl n) = le 4 n := bl_strOf (le_lt 4 n)

theorem add_addr (B k : Nat) : (⟨B, 0, none⟩ : Addr).add k = ⟨B, k, none⟩ := by unfold Addr.add; split <;> simp_all
theorem tl_conv (n : Nat) (w : World) (h : n < 4294967296) :
    (convert 73 9 (.slice (some ⟨w.heap.size, 0, none⟩) 4 4)).run Try.prog (w.alloc (.cells #[.int .u8 ((n : Int) % 256), .int .u8 ((n : Int) / 256 % 256), .int .u8 ((n : Int) / 65536 % 256), .int .u8 ((n : Int) / 16777216)] 5))
      = .ok (.string (tl n)) (w.alloc (.cells #[.int .u8 ((n : Int) % 256), .int .u8 ((n : Int) / 256 % 256), .int .u8 ((n : Int) / 65536 % 256), .int .u8 ((n : Int) / 16777216)] 5)) := by
  refine run_convert_bytes_back _ 73 9 5 ⟨w.heap.size, 0, none⟩ 4 [UInt8.ofNat (n % 256), UInt8.ofNat (n / 256 % 256), UInt8.ofNat (n / 256 / 256 % 256), UInt8.ofNat (n / 256 / 256 / 256 % 256)] Try.underlying73 Try.underlying5 Try.underlying9 fun j hj => ?_
  rw [add_addr, cell_of_row _ _ _ _ _ _ (heap_alloc_new w _)]
  have e : ∀ m : Nat, ((UInt8.ofNat (m % 256)).toNat : Int) = (m : Int) % 256 := by
    intro m
    rw [UInt8.toNat_ofNat']
    omega
  have hj' : j < 4 := hj
  rcases j with _ | _ | _ | _ | j
  · simp only [List.getElem_cons_zero, e]; rfl
  · simp only [List.getElem_cons_succ, List.getElem_cons_zero, e]; simp
  · simp only [List.getElem_cons_succ, List.getElem_cons_zero, e]; simp; omega
  · simp only [List.getElem_cons_succ, List.getElem_cons_zero, e]; simp; omega
  · omega

theorem tail_any (n : Nat) (w : World) (h : n < 4294967296) :
    Calls Try.prog 46 #[.int .u32 n] w fun e w' => e = .returned (.string (tl n)) ∧ Below w.heap.size w w' := by
  have hc := tl_conv n w h
  go_enter Try.func46, Try.ntmps46
  go_wp2
  go_ret
  exact ⟨rfl, (Below.refl _ _).alloc (Nat.le_refl _) _⟩
/-- v reads as the texts ss in w -/
structure StrsAt (w : World) (v : Value) (ss : List ByteArray) : Prop where
  is : ∃ base cap, v = .slice base ss.length cap ∧ ∀ j s, ss[j]? = some s → ∃ a : Addr, base = some a ∧ a.block < w.heap.size ∧ w.cell? (a.add j) = some (.string s)
theorem none_strs (w : World) : StrsAt w (.slice none 0 0) [] := ⟨none, 0, rfl, by simp⟩
theorem one_strs (w : World) (s : ByteArray) : StrsAt (w.alloc (.cells #[.string s] 9)) (.slice (some ⟨w.heap.size, 0, none⟩) 1 1) [s] := by
  refine ⟨some ⟨w.heap.size, 0, none⟩, 1, rfl, ?_⟩
  intro j t ht
  refine ⟨_, rfl, by simp, ?_⟩
  rw [add_addr, cell_of_row _ _ _ _ _ _ (heap_alloc_new w _)]
  rcases j with _ | j
  · simp at ht; subst ht; rfl
  · simp at ht
theorem two_strs (w : World) (s t : ByteArray) : StrsAt (w.alloc (.cells #[.string s, .string t] 9)) (.slice (some ⟨w.heap.size, 0, none⟩) 2 2) [s, t] := by
  refine ⟨some ⟨w.heap.size, 0, none⟩, 2, rfl, ?_⟩
  intro j u hu
  refine ⟨_, rfl, by simp, ?_⟩
  rw [add_addr, cell_of_row _ _ _ _ _ _ (heap_alloc_new w _)]
  rcases j with _ | _ | j
  · simp at hu; subst hu; rfl
  · simp at hu; subst hu; rfl
  · simp at hu
def allB (ss : List ByteArray) : List Nat := (ss.map bl).flatten
theorem allB_snoc (ss : List ByteArray) (k : Nat) (s : ByteArray) (h : ss[k]? = some s) : allB (ss.take (k + 1)) = allB (ss.take k) ++ bl s := by
  unfold allB
  rw [List.take_add_one, h]
  simp
theorem allB_one (s : ByteArray) : allB [s] = bl s := by simp [allB]
theorem allB_two (s t : ByteArray) : allB [s, t] = bl s ++ bl t := by simp [allB]
theorem allB_lt (ss : List ByteArray) : ∀ x ∈ allB ss, x < 256 := by
  intro x hx
  simp only [allB, List.mem_flatten, List.mem_map] at hx
  obtain ⟨l, ⟨s, _, rfl⟩, hx⟩ := hx
  exact bl_lt s x hx

theorem of_any {w : World} {v : Value} {ss : List ByteArray} (hv : StrsAt w v ss) (hl : ss.length ≤ 9223372036854775807) (hz : ∀ s ∈ ss, s.size ≤ 9223372036854775807) :
    Calls Try.prog 47 #[v] w fun e w' => e = .returned (.int .u32 (mor 0 (allB ss) : Nat)) ∧ w = w' := by
  obtain ⟨base, cap, rfl, hc⟩ := hv.is
  clear hv
  have HC := Lib.hid hc
  have HZ := Lib.hid hz
  clear hc hz
  go_enter Try.func47, Try.ntmps47
  go_wp2
  go_loopw [3, 8] (fun x i wr => ∃ k : Nat, k ≤ ss.length ∧ x = .int .u32 (mor 0 (allB (ss.take k)) : Nat) ∧ i = .int .i64 k ∧ w = wr) (fun _ i _ => ss.length - (intOf i).toNat)
  case atStart => exact ⟨0, Nat.zero_le _, by rw [List.take_zero, show allB [] = [] from rfl, mor_nil]; rfl, rfl, rfl⟩
  case round =>
    obtain ⟨k, hk, rfl, rfl, rfl⟩ := hrel
    by_cases hlt : k < ss.length
    · obtain ⟨s, hs⟩ : ∃ s, ss[k]? = some s := ⟨ss[k], List.getElem?_eq_getElem hlt⟩
      obtain ⟨a, rfl, ha, hcell⟩ := HC.out k s hs
      have hsz := HZ.out s (List.mem_of_getElem? hs)
      have HS := Lib.hid hs
      clear hs
      have l1 : (k : Int) < (ss.length : Int) := by omega
      go_wp2_with fail
      refine (more_any (mor 0 (allB (ss.take k))) s _ (mor_lt (by decide) (allB_lt _)) hsz).mono ?_
      rintro e w' ⟨rfl, rfl⟩
      go_wp2
      go_roundw
      case rel => exact ⟨k + 1, by omega, by rw [allB_snoc ss k s HS.out, mor_append], by go_num, trivial⟩
      case measure => simp [intOf]; omega
    · have e : ss.take k = ss := List.take_of_length_le (by omega)
      have l1 : ¬ (k : Int) < (ss.length : Int) := by omega
      rw [e]
      go_wp2
      go_ret
      exact ⟨rfl, rfl⟩
end Go.Proofs.Ytdmgobffhpgjlaa.Cr
end

section
namespace Go.Proofs.Ytdmgobffhpgjlaa.Cr
open Go.RowKit Go.PlainAid
set_option linter.unusedVariables false
set_option maxRecDepth 20000

section
variable {P : Program} {md : Region.Mode} {ops : Array Oper} {Q : Exit → Act → World → Prop} {S : World → Prop} {i fuel : Nat} {listed : Array Bool} {a : Act} {w : World} {oi : Oper}
theorem held_take (i : Nat) (v : Value) (hi : ops[i]? = some oi) (hs : Region.noSelect ops = true) (hf : Region.free md ops listed i = true) (hr : (Region.ready md ops listed).contains i = true)
    (hQ : ∀ c a w, Q (.panic c) (a.put oi.dst v) w → Q (.panic c) a w) (hy : YieldsIf P ops S oi v a) (hS : S w)
    (h : ∀ K : Act → World → Prop, (∀ a w, wpAnyH P md ops Q S fuel (listed.setIfInBounds i true) a w → K a w) → K (a.put oi.dst v) w) : wpAnyH P md ops Q S (fuel + 1) listed a w :=
  wpAnyH_take hi hs hf hr hQ hy hS (h _ fun _ _ h => h)
theorem held_one (i : Nat) (hr : Region.ready md ops listed = [i])
    (h1 : ∀ K : Act → World → Prop, (∀ a w, S w → wpAnyH P md ops Q S fuel (listed.setIfInBounds i true) a w → K a w) → wpOp P ops Q i K a w) : wpAnyH P md ops Q S (fuel + 1) listed a w :=
  wpAnyH_all hr (by simp) (by intro k hk; simp at hk; subst hk; exact h1 _ fun _ _ hs h => ⟨hs, h⟩)
theorem wpOp_in {K : Act → World → Prop} (hi : ops[i]? = some oi) (hw : Region.wanted oi (yielded ops a.tmps) = true) (h : oi.wp P a w K Q) : wpOp P ops Q i K a w := by
  unfold wpOp
  simp only [hi]
  rw [if_pos hw]
  exact Or.inl h
end

/-- whether a text ends with its sum -/
def endsB (s : ByteArray) : Bool := decide (4 ≤ s.size) && ((s.extract (s.size - 4) s.size).toList == (tl (mor 0 (bl (s.extract 0 (s.size - 4))))).toList)
end Go.Proofs.Ytdmgobffhpgjlaa.Cr
end

section
namespace Go.Proofs.Ytdmgobffhpgjlaa.Cr
open Go.RowKit Go.PlainAid
set_option linter.unusedVariables false
set_option maxRecDepth 20000

theorem val_nine : mor 0 (allB [⟨#[49, 50, 51, 52, 53, 54, 55, 56, 57]⟩]) = 3421780262 := by decide +kernel
theorem val_none : mor 0 (allB []) = 0 := by decide +kernel
theorem val_one : tl 1 = ⟨#[1, 0, 0, 0]⟩ := by decide +kernel
theorem val_zero : tl 0 = ⟨#[0, 0, 0, 0]⟩ := by decide +kernel
theorem ends_zero : endsB ⟨#[0, 0, 0, 0]⟩ = true := by decide +kernel
theorem ends_abc : endsB ⟨#[97, 98, 99]⟩ = false := by decide +kernel

theorem nxor (e : Nat) (h : e < 4294967296) : e ^^^ 4294967295 = 4294967295 - e := by
  have := BitVec.toNat_not (x := BitVec.ofNat 32 e)
  rw [← BitVec.xor_allOnes, BitVec.toNat_xor, BitVec.toNat_allOnes, BitVec.toNat_ofNat, Nat.mod_eq_of_lt (by simpa using h)] at this
  simpa using this
theorem wnot {e : Nat} (h : e < 4294967296) : bits .xor .u32 4294967295 (e : Int) = ((e ^^^ 4294967295 : Nat) : Int) := by
  rw [Nat.xor_comm]
  exact u32_xor_nat 4294967295 e (by decide) h
end Go.Proofs.Ytdmgobffhpgjlaa.Cr
end

section
namespace Go.Proofs.Ytdmgobffhpgjlaa.Cr
open Go.RowKit Go.PlainAid
set_option linter.unusedVariables false
set_option maxRecDepth 20000

/-- block B holds the bytes l, which may be written -/
structure RowB (w : World) (B : Nat) (l : List Nat) : Prop where
  cell : ∀ (j x : Nat), l[j]? = some x → w.cell? ⟨B, j, none⟩ = some (.int .u8 (x : Int)) ∧ w.frozen? ⟨B, j, none⟩ = false
theorem RowB.old {w w' : World} {B : Nat} {l : List Nat} (h : RowB w B l) (hw : w'.heap[B]? = w.heap[B]?) : RowB w' B l :=
  ⟨fun j x hx => by rw [World.cell?_of_block (w := w) hw, World.frozen?_of_block (w := w) hw]; exact h.cell j x hx⟩
theorem RowB.below {w w' : World} {B N : Nat} {l : List Nat} (h : RowB w B l) (hb : Below N w w') (hB : B < N) : RowB w' B l := h.old (hb.block B hB)
theorem RowB.alloc {w : World} {B : Nat} {l : List Nat} (h : RowB w B l) (hB : B < w.heap.size) (o : Obj) : RowB (w.alloc o) B l := h.old (Below.heap_alloc _ _ _ hB)
theorem cell_ne {w : World} {B j i : Nat} {u v : Value} (h : j ≠ i) (hc : w.cell? ⟨B, j, none⟩ = some u) : (w.setCell ⟨B, i, none⟩ v).cell? ⟨B, j, none⟩ = some u := by
  rw [World.cell?_setCell_other _ _ _ _ (by intro e; injection e; omega)]; exact hc
theorem RowB.set {w : World} {B : Nat} {l : List Nat} (h : RowB w B l) (i v : Nat) (hi : i < l.length) : RowB (w.setCell ⟨B, i, none⟩ (.int .u8 (v : Int))) B (l.set i v) := by
  refine ⟨fun j x hx => ?_⟩
  rw [World.frozen?_setCell]
  by_cases e : j = i
  · subst e
    rw [List.getElem?_set_self hi] at hx
    obtain rfl : v = x := by simpa using hx
    have c := h.cell j l[j] (List.getElem?_eq_getElem hi)
    exact ⟨World.cell?_setCell_same _ _ _ c.1, c.2⟩
  · rw [List.getElem?_set_ne (by omega)] at hx
    exact ⟨cell_ne e (h.cell j x hx).1, (h.cell j x hx).2⟩
theorem RowB.conv {w : World} {B cap : Nat} {l : List Nat} (h : RowB w B l) (hl : ∀ x ∈ l, x < 256) {n : Nat} (hn : l.length = n) : (convert 73 9 (.slice (some ⟨B, 0, none⟩) n cap)).run Try.prog w = .ok (.string (strOf l)) w := by
  subst hn
  have := run_convert_bytes_back (P := Try.prog) w 73 9 5 ⟨B, 0, none⟩ cap (l.map UInt8.ofNat) Try.underlying73 Try.underlying5 Try.underlying9 (fun j hj => by
    rw [add_addr]
    have hj' : j < l.length := by simpa using hj
    rw [(h.cell j l[j] (List.getElem?_eq_getElem hj')).1]
    have := hl l[j] (List.getElem_mem hj')
    simp [Nat.mod_eq_of_lt this])
  rw [List.length_map] at this
  exact this
theorem conv_row (w : World) (s : ByteArray) : ∃ cap X, (convert 9 73 (.string s)).run Try.prog w = .ok (.slice (some ⟨w.heap.size, 0, none⟩) s.size cap) X ∧ RowB X w.heap.size (bl s) ∧ Below w.heap.size w X ∧ w.heap.size < X.heap.size := by
  refine ⟨_, _, Lib.run_convert_string_bytes w 9 73 5 s Try.underlying9 Try.underlying73 Try.underlying5, ⟨?_⟩, ?_, ?_⟩
  · intro j x hx
    have hj : j < s.size := by
      have := (List.getElem?_eq_some_iff.1 hx).1
      rwa [bl_len] at this
    refine ⟨?_, ?_⟩
    · rw [Lib.bytesWorld_cell w 5 s j hj]
      have e := (List.getElem?_eq_some_iff.1 hx).2
      simp [bl] at e
      simp [← e, hj]
    · have hz : s.size ≤ (Lib.bytesCells w 5 s).size := by simp [Lib.bytesCells]
      have hn := Lib.bytesWorld_at_new w 5 s
      simp [World.frozen?, hn]; omega
  · exact ⟨rfl, rfl, rfl, by rw [Lib.bytesWorld_size]; omega, fun k hk => Lib.bytesWorld_at_old w 5 s k hk⟩
  · rw [Lib.bytesWorld_size]; omega

/-! a burst -/
/-- what is laid over the byte at j: k bytes of the number B from p on -/
def dB (p B k j : Nat) : Nat := if p ≤ j ∧ j < p + k then B / 256 ^ (j - p) % 256 else 0
def dL (n p B k : Nat) : List Nat := (List.range n).map (dB p B k)
def burL (l : List Nat) (p B k : Nat) : List Nat := List.zipWith (· ^^^ ·) l (dL l.length p B k)
theorem dL_len (n p B k : Nat) : (dL n p B k).length = n := by simp [dL]
theorem burL_len (l : List Nat) (p B k : Nat) : (burL l p B k).length = l.length := by simp [burL, dL]
theorem burL_get (l : List Nat) (p B k j : Nat) (h : j < l.length) : (burL l p B k)[j]'(by rw [burL_len]; exact h) = l[j] ^^^ dB p B k j := by
  simp [burL, dL]
theorem burL_zero (l : List Nat) (p B : Nat) : burL l p B 0 = l := by
  refine List.ext_getElem (burL_len _ _ _ _) fun j h1 h2 => ?_
  rw [burL_get l p B 0 j h2]
  unfold dB; rw [if_neg (by omega), Nat.xor_zero]
theorem burL_succ (l : List Nat) (p B k : Nat) (h : p + k < l.length) : burL l p B (k + 1) = (burL l p B k).set (p + k) (l[p + k] ^^^ (B / 256 ^ k % 256)) := by
  refine List.ext_getElem (by rw [List.length_set, burL_len, burL_len]) fun j h1 h2 => ?_
  have hj : j < l.length := by rw [burL_len] at h1; exact h1
  rw [burL_get l p B (k + 1) j hj, List.getElem_set]
  by_cases e : p + k = j
  · subst e
    rw [if_pos rfl]
    unfold dB; rw [if_pos (by omega), show p + k - p = k by omega]
  · rw [if_neg e, burL_get l p B k j hj]
    congr 1
    unfold dB
    by_cases c : p ≤ j ∧ j < p + k
    · rw [if_pos (by omega), if_pos c]
    · rw [if_neg (by omega), if_neg c]
theorem burL_past (l : List Nat) (p B k : Nat) (h : l.length ≤ p + k) : burL l p B (k + 1) = burL l p B k := by
  refine List.ext_getElem (by rw [burL_len, burL_len]) fun j h1 h2 => ?_
  have hj : j < l.length := by rw [burL_len] at h1; exact h1
  rw [burL_get l p B (k + 1) j hj, burL_get l p B k j hj]
  congr 1
  unfold dB
  by_cases c : p ≤ j ∧ j < p + k
  · rw [if_pos (by omega), if_pos c]
  · rw [if_neg (by omega), if_neg c]
theorem burL_at (l : List Nat) (p B k : Nat) (h : p + k < l.length) : (burL l p B k)[p + k]? = some l[p + k] := by
  rw [List.getElem?_eq_getElem (by rw [burL_len]; exact h), burL_get l p B k (p + k) h]
  unfold dB; rw [if_neg (by omega), Nat.xor_zero]
theorem burL_lt (l : List Nat) (p B k : Nat) (hl : ∀ x ∈ l, x < 256) : ∀ x ∈ burL l p B k, x < 256 := by
  intro x hx
  obtain ⟨j, hj, rfl⟩ := List.getElem_of_mem hx
  have hj' : j < l.length := by rw [burL_len] at hj; exact hj
  rw [burL_get l p B k j hj']
  refine Nat.xor_lt_two_pow (n := 8) (hl _ (List.getElem_mem hj')) ?_
  unfold dB; split
  · exact Nat.mod_lt _ (by decide)
  · decide
theorem le_get : ∀ (k n j : Nat) (h : j < (le k n).length), (le k n)[j] = n / 256 ^ j % 256
  | 0, n, j, h => by simp [le] at h
  | k + 1, n, 0, h => by simp [le]
  | k + 1, n, j + 1, h => by
    simp only [le, List.getElem_cons_succ]
    rw [le_get k (n / 256) j, Nat.div_div_eq_div_mul, Nat.pow_succ, Nat.mul_comm]
theorem dL_eq (n p B k : Nat) (h : p + k ≤ n) : dL n p B k = List.replicate p 0 ++ le k B ++ List.replicate (n - p - k) 0 := by
  refine List.ext_getElem (by rw [dL_len]; simp [le_len]; omega) fun j h1 h2 => ?_
  have e : (dL n p B k)[j] = dB p B k j := by simp [dL]
  rw [e]
  unfold dB
  by_cases a : j < p
  · rw [if_neg (by omega), List.getElem_append_left (by simp [le_len]; omega), List.getElem_append_left (by simpa using a)]
    simp
  · by_cases b : j < p + k
    · rw [if_pos (by omega), List.getElem_append_left (by simp [le_len]; omega), List.getElem_append_right (by simp; omega), le_get]
      simp
    · rw [if_neg (by omega), List.getElem_append_right (by simp [le_len]; omega)]
      simp
theorem bur_ne (l : List Nat) (p k mask r : Nat) (h0 : mask ≠ 0) (h1 : mask < 4294967296) (hr : r ≤ 8 * k) (hk : mask * 2 ^ r < 256 ^ k) (h : p + k ≤ l.length) :
    mor 0 (burL l p (mask * 2 ^ r) k) ≠ mor 0 l := by
  intro c
  unfold mor at c
  have c2 := congrArg (· ^^^ 4294967295) c
  simp only [xx] at c2
  unfold burL at c2
  rw [show (0 ^^^ 4294967295 : Nat) = (0 ^^^ 4294967295) ^^^ 0 by rw [Nat.xor_zero]] at c2
  rw [crcL_xor l (dL l.length p (mask * 2 ^ r) k) (0 ^^^ 4294967295) 0 (by rw [dL_len])] at c2
  rw [Nat.xor_zero] at c2
  have z : crcL 0 (dL l.length p (mask * 2 ^ r) k) = 0 := by
    have c3 := congrArg (crcL (0 ^^^ 4294967295) l ^^^ ·) c2
    simp only [Nat.xor_self, ← Nat.xor_assoc, Nat.zero_xor] at c3
    exact c3
  rw [dL_eq _ _ _ _ h] at z
  exact burst_ne p (l.length - p - k) k mask r h0 h1 hr hk z
/-- a burst of up to 32 bits from bit 8 * p + r on, laid over five bytes, as far as there are any -/
theorem told (l : List Nat) (p r mask : Nat) (h0 : mask ≠ 0) (h1 : mask < 4294967296) (hr : r < 8) (hb : 8 * p + r + 32 ≤ 8 * l.length) :
    mor 0 (burL l p (mask * 2 ^ r) 5) ≠ mor 0 l := by
  by_cases c : p + 5 ≤ l.length
  · refine bur_ne l p 5 mask r h0 h1 (by omega) ?_ c
    have : mask * 2 ^ r < 4294967296 * 2 ^ 8 := Nat.lt_of_lt_of_le (Nat.mul_lt_mul_of_pos_right h1 (Nat.two_pow_pos r)) (Nat.mul_le_mul_left _ (Nat.pow_le_pow_right (by decide) (by omega)))
    omega
  · obtain rfl : r = 0 := by omega
    rw [burL_past l p _ 4 (by omega)]
    exact bur_ne l p 4 mask 0 h0 h1 (by omega) (by omega) (by omega)
end Go.Proofs.Ytdmgobffhpgjlaa.Cr
end
