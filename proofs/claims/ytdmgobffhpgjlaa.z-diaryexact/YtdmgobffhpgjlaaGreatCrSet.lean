/-
  CRC-32 as plain functions of numbers and lists: a step, the sum of bytes; it is linear, a number's own bytes are its steps, no step makes 0 of a number but 0. No program is spoken of.
  Contracts of crc.step, crc.eightSteps and crc.More: what they answer for every argument. They compute, and change nothing.
  Contracts of Tail, the program's and the document's: a number's four bytes, the lowest first.
  Contract of crc.Ends: whether the last four bytes are Tail of the sum of those ahead.
  The document's examples of layer 3: awake answers true. And the document's More.
  Rows of bytes that came of a text and are written to; a burst laid over bytes: in plain terms.
-/
import Derived.WalkKit
import Derived.Laws.BitsAllLaws
import Derived.Test.YtdmgobffhpgjlaaGreatRows
import Derived.Lib.Hide
import Derived.PlainAid
import Derived.Lib.ConvBytes
import Derived.Laws.IdiomStrings
import Derived.OrdersHeld
import Derived.Deep.DeepCutAuto
section
namespace Go.Proofs.YtdmgobffhpgjlaaGreat.Cr
open Go.RowKit
set_option linter.unusedVariables false
set_option maxRecDepth 20000

/-- a step -/
def stp (n : Nat) : Nat := (n / 2) ^^^ (if n % 2 = 1 then 3988292384 else 0)
def stpN : Nat → Nat → Nat
  | 0, n => n
  | k + 1, n => stpN k (stp n)
def eight (n : Nat) : Nat := stpN 8 n
/-- a sum's inside from n on, over bytes -/
def crcL (n : Nat) (l : List Nat) : Nat := l.foldl (fun n b => eight (n ^^^ b)) n
/-- the sum from sum on -/
def mor (sum : Nat) (l : List Nat) : Nat := crcL (sum ^^^ 4294967295) l ^^^ 4294967295

theorem xor_lt {a b : Nat} (ha : a < 4294967296) (hb : b < 4294967296) : a ^^^ b < 4294967296 := Nat.xor_lt_two_pow (n := 32) ha hb
theorem stp_odd {n : Nat} (h : n % 2 = 1) : stp n = (n / 2) ^^^ 3988292384 := by unfold stp; rw [if_pos h]
theorem stp_even {n : Nat} (h : n % 2 = 0) : stp n = n / 2 := by unfold stp; rw [if_neg (by omega)]; simp
theorem stp_lt {n : Nat} (h : n < 4294967296) : stp n < 4294967296 := by
  unfold stp
  refine xor_lt (by omega) ?_
  split <;> decide
theorem stpN_lt : ∀ (k : Nat) {n : Nat}, n < 4294967296 → stpN k n < 4294967296
  | 0, n, h => h
  | k + 1, n, h => stpN_lt k (stp_lt h)
theorem stpN_add : ∀ (j k n : Nat), stpN (j + k) n = stpN k (stpN j n)
  | 0, k, n => by rw [Nat.zero_add]; rfl
  | j + 1, k, n => by
    rw [show j + 1 + k = (j + k) + 1 by omega]
    exact stpN_add j k (stp n)
theorem eight_lt {n : Nat} (h : n < 4294967296) : eight n < 4294967296 := stpN_lt 8 h
theorem crcL_lt : ∀ (l : List Nat) {n : Nat}, n < 4294967296 → (∀ x ∈ l, x < 256) → crcL n l < 4294967296
  | [], n, h, _ => h
  | b :: l, n, h, hl => by
    have hb := hl b (by simp)
    exact crcL_lt l (eight_lt (xor_lt h (by omega))) (fun x hx => hl x (by simp [hx]))
theorem crcL_append (n : Nat) (a b : List Nat) : crcL n (a ++ b) = crcL (crcL n a) b := by unfold crcL; rw [List.foldl_append]
theorem crcL_nil (n : Nat) : crcL n [] = n := rfl
theorem crcL_snoc (n b : Nat) (l : List Nat) : crcL n (l ++ [b]) = eight (crcL n l ^^^ b) := by rw [crcL_append]; rfl
theorem xx (a b : Nat) : a ^^^ b ^^^ b = a := by rw [Nat.xor_assoc, Nat.xor_self, Nat.xor_zero]
theorem mor_append (n : Nat) (a b : List Nat) : mor (mor n a) b = mor n (a ++ b) := by
  unfold mor
  rw [xx, crcL_append]
theorem mor_lt {n : Nat} {l : List Nat} (h : n < 4294967296) (hl : ∀ x ∈ l, x < 256) : mor n l < 4294967296 := xor_lt (crcL_lt l (xor_lt h (by decide)) hl) (by decide)
theorem mor_nil (n : Nat) : mor n [] = n := by unfold mor; rw [crcL_nil, xx]

/-! linear -/
theorem x4 (a b c d : Nat) : (a ^^^ b) ^^^ (c ^^^ d) = (a ^^^ c) ^^^ (b ^^^ d) := by
  rw [Nat.xor_assoc, Nat.xor_assoc, ← Nat.xor_assoc b, Nat.xor_comm b c, Nat.xor_assoc c]
/-! a number's own bytes -/
def le : Nat → Nat → List Nat
  | 0, _ => []
  | k + 1, n => n % 256 :: le k (n / 256)
/-! behind the tail of its sum -/
/-! a burst -/
theorem stpN_snoc (k n : Nat) : stpN (k + 1) n = stp (stpN k n) := stpN_add k 1 n
theorem stpN_zero (n : Nat) : stpN 0 n = n := rfl
attribute [irreducible] stpN crcL
end Go.Proofs.YtdmgobffhpgjlaaGreat.Cr
end

section
namespace Go.Proofs.YtdmgobffhpgjlaaGreat.Cr
open Go.RowKit Go.PlainAid
set_option linter.unusedVariables false
set_option maxRecDepth 20000

theorem ret_int {k : IntKind} {a b : Int} (h : a = b) : Ending.returned (.int k a) = .returned (.int k b) := by rw [h]
theorem wxor {a b : Nat} (ha : a < 4294967296) (hb : b < 4294967296) : bits .xor .u32 (a : Int) (b : Int) = ((a ^^^ b : Nat) : Int) := u32_xor_nat a b ha hb
theorem wand1 {a : Nat} (ha : a < 4294967296) : bits .and .u32 (a : Int) 1 = ((a % 2 : Nat) : Int) := by
  have := u32_and_nat a 1 ha (by decide)
  rw [Nat.and_one_is_mod] at this
  exact this
theorem wones {a : Nat} (ha : a < 4294967296) : bits .xor .u32 (a : Int) 4294967295 = ((a ^^^ 4294967295 : Nat) : Int) := wxor ha (by decide)

theorem step_any (n : Nat) (w : World) (h : n < 4294967296) :
    Calls Tryz.prog 125 #[.int .u32 n] w fun e w' => e = .returned (.int .u32 (stp n : Nat)) ∧ w = w' := by
  have e1 := wand1 h
  rcases Nat.mod_two_eq_zero_or_one n with e | e
  · rw [e] at e1
    go_enter Tryz.func125, Tryz.ntmps125
    go_wp2
    go_ret
    refine ⟨ret_int ?_, rfl⟩
    rw [stp_even e]; omega
  · rw [e] at e1
    go_enter Tryz.func125, Tryz.ntmps125
    go_wp2
    go_ret
    refine ⟨ret_int ?_, rfl⟩
    rw [stp_odd e, show (n : Int) / 2 = ((n / 2 : Nat) : Int) by omega]
    exact wxor (by omega) (by decide)

theorem eight_any (n : Nat) (w : World) (h : n < 4294967296) :
    Calls Tryz.prog 111 #[.int .u32 n] w fun e w' => e = .returned (.int .u32 (eight n : Nat)) ∧ w = w' := by
  go_enter Tryz.func111, Tryz.ntmps111
  go_wp2
  go_loopw [0, 3] (fun x i wr => ∃ k : Nat, k ≤ 8 ∧ x = .int .u32 (stpN k n : Nat) ∧ i = .int .i64 k ∧ w = wr) (fun _ i _ => 8 - (intOf i).toNat)
  case atStart => exact ⟨0, by decide, by rw [stpN_zero], rfl, rfl⟩
  case round =>
    obtain ⟨k, hk, rfl, rfl, rfl⟩ := hrel
    by_cases hlt : k < 8
    · have l1 : (k : Int) < 8 := by omega
      go_wp2_with fail
      refine (step_any (stpN k n) _ (stpN_lt k h)).mono ?_
      rintro e w' ⟨rfl, rfl⟩
      go_wp2
      go_roundw
      case rel => exact ⟨k + 1, by omega, by rw [stpN_snoc], by go_num, trivial⟩
      case measure => simp [intOf]; omega
    · obtain rfl : k = 8 := by omega
      go_wp2
      go_ret
      exact ⟨rfl, rfl⟩

/-- the bytes of a text, as numbers -/
def bl (s : ByteArray) : List Nat := s.data.toList.map UInt8.toNat
theorem bl_len (s : ByteArray) : (bl s).length = s.size := by simp [bl]
theorem bl_lt (s : ByteArray) : ∀ x ∈ bl s, x < 256 := by
  intro x hx
  simp only [bl, List.mem_map] at hx
  obtain ⟨c, _, rfl⟩ := hx
  exact c.toNat_lt
def bn (s : ByteArray) (k : Nat) : Nat := (bt s k).toNat
theorem bn_bt (s : ByteArray) (k : Nat) : ((bn s k : Nat) : Int) = bt s k := by
  have := bt_nonneg s k
  unfold bn; omega
theorem bn_lt (s : ByteArray) (k : Nat) : bn s k < 256 := by
  have := bt_le s k
  have := bt_nonneg s k
  unfold bn; omega
theorem bl_snoc (s : ByteArray) (k : Nat) (h : k < s.size) : (bl s).take (k + 1) = (bl s).take k ++ [bn s k] := by
  rw [List.take_succ_eq_append_getElem (by rw [bl_len]; exact h)]
  congr 2
  unfold bn bt
  rw [dif_pos h]
  simp only [bl, List.getElem_map]
  rfl
theorem bl_take_lt (s : ByteArray) (k : Nat) : ∀ x ∈ (bl s).take k, x < 256 := fun x hx => bl_lt s x (List.mem_of_mem_take hx)

theorem more_any (sum : Nat) (s : ByteArray) (w : World) (h : sum < 4294967296) (hs : s.size ≤ 9223372036854775807) :
    Calls Tryz.prog 101 #[.int .u32 sum, .string s] w fun e w' => e = .returned (.int .u32 (mor sum (bl s) : Nat)) ∧ w = w' := by
  have e0 := wones h
  have hb := get_bt s
  go_enter Tryz.func101, Tryz.ntmps101
  go_wp2
  go_loopw [5, 6] (fun x i wr => ∃ k : Nat, k ≤ s.size ∧ x = .int .u32 (crcL (sum ^^^ 4294967295) ((bl s).take k) : Nat) ∧ i = .int .i64 k ∧ w = wr) (fun _ i _ => s.size - (intOf i).toNat)
  case atStart => exact ⟨0, Nat.zero_le _, by rw [List.take_zero, crcL_nil], rfl, rfl⟩
  case round =>
    obtain ⟨k, hk, rfl, rfl, rfl⟩ := hrel
    have hc := crcL_lt ((bl s).take k) (xor_lt h (show 4294967295 < 4294967296 by decide)) (bl_take_lt s k)
    by_cases hlt : k < s.size
    · have l1 : (k : Int) < (s.size : Int) := by omega
      have i1 : (0 : Int) ≤ (k : Int) := Int.natCast_nonneg _
      have b0 := bt_nonneg s k
      have b1 := bt_le s k
      have b2 := bn_lt s k
      have e1 : bits .xor .u32 ((crcL (sum ^^^ 4294967295) ((bl s).take k) : Nat) : Int) (bt s k) = ((crcL (sum ^^^ 4294967295) ((bl s).take k) ^^^ bn s k : Nat) : Int) := by
        rw [← bn_bt]; exact wxor hc (by omega)
      go_wp2_with fail
      refine (eight_any (crcL (sum ^^^ 4294967295) ((bl s).take k) ^^^ bn s k) _ (xor_lt hc (by omega))).mono ?_
      rintro e w' ⟨rfl, rfl⟩
      go_wp2
      go_roundw
      case rel => exact ⟨k + 1, by omega, by rw [bl_snoc s k hlt, crcL_snoc], by go_num, trivial⟩
      case measure => simp [intOf]; omega
    · have l1 : ¬ (k : Int) < (s.size : Int) := by omega
      have e2 := wones hc
      have e3 : (bl s).take k = bl s := List.take_of_length_le (by rw [bl_len]; omega)
      rw [e3] at e2
      rw [e3]
      clear e3
      go_wp2
      go_ret
      exact ⟨rfl, rfl⟩
end Go.Proofs.YtdmgobffhpgjlaaGreat.Cr
end

section
namespace Go.Proofs.YtdmgobffhpgjlaaGreat.Cr
open Go.RowKit Go.PlainAid
set_option linter.unusedVariables false
set_option maxRecDepth 20000

/-- the text of bytes that are numbers -/
def strOf (l : List Nat) : ByteArray := ⟨(l.map UInt8.ofNat).toArray⟩
theorem strOf_size (l : List Nat) : (strOf l).size = l.length := by simp [strOf, ByteArray.size]
theorem bl_strOf {l : List Nat} (h : ∀ x ∈ l, x < 256) : bl (strOf l) = l := by
  simp only [bl, strOf, List.map_map]
  refine (List.map_congr_left (g := id) fun x hx => ?_).trans (List.map_id _)
  simp [UInt8.toNat_ofNat', Nat.mod_eq_of_lt (h x hx)]
/-- Tail -/
def tl (n : Nat) : ByteArray := strOf (le 4 n)
theorem le_len : ∀ (k n : Nat), (le k n).length = k
  | 0, _ => rfl
  | k + 1, n => by simp [le, le_len k]
theorem le_lt : ∀ (k n : Nat), ∀ x ∈ le k n, x < 256
  | 0, _, x, h => by simp [le] at h
  | k + 1, n, x, h => by
    simp only [le, List.mem_cons] at h
    rcases h with rfl | h
    · exact Nat.mod_lt _ (by decide)
    · exact le_lt k _ x h
theorem tl_size (n : Nat) : (tl n).size = 4 := by unfold tl; rw [strOf_size, le_len]
theorem bl_tl (n : Nat) : bl (tl n) = le 4 n := bl_strOf (le_lt 4 n)

theorem add_addr (B k : Nat) : (⟨B, 0, none⟩ : Addr).add k = ⟨B, k, none⟩ := by unfold Addr.add; split <;> simp_all
theorem tl_conv (n : Nat) (w : World) (h : n < 4294967296) :
    (convert 87 9 (.slice (some ⟨w.heap.size, 0, none⟩) 4 4)).run Tryz.prog (w.alloc (.cells #[.int .u8 ((n : Int) % 256), .int .u8 ((n : Int) / 256 % 256), .int .u8 ((n : Int) / 65536 % 256), .int .u8 ((n : Int) / 16777216)] 5))
      = .ok (.string (tl n)) (w.alloc (.cells #[.int .u8 ((n : Int) % 256), .int .u8 ((n : Int) / 256 % 256), .int .u8 ((n : Int) / 65536 % 256), .int .u8 ((n : Int) / 16777216)] 5)) := by
  refine run_convert_bytes_back _ 87 9 5 ⟨w.heap.size, 0, none⟩ 4 [UInt8.ofNat (n % 256), UInt8.ofNat (n / 256 % 256), UInt8.ofNat (n / 256 / 256 % 256), UInt8.ofNat (n / 256 / 256 / 256 % 256)] Tryz.underlying87 Tryz.underlying5 Tryz.underlying9 fun j hj => ?_
  rw [add_addr, cell_of_row _ _ _ _ _ _ (heap_alloc_new w _)]
  have e : ∀ m : Nat, ((UInt8.ofNat (m % 256)).toNat : Int) = (m : Int) % 256 := by
    intro m
    rw [UInt8.toNat_ofNat']
    omega
  have hj' : j < 4 := hj
  rcases j with _ | _ | _ | _ | j
  · simp only [List.getElem_cons_zero, e]; rfl
  · simp only [List.getElem_cons_succ, List.getElem_cons_zero, e]; simp
  · simp only [List.getElem_cons_succ, List.getElem_cons_zero, e]; simp; omega
  · simp only [List.getElem_cons_succ, List.getElem_cons_zero, e]; simp; omega
  · omega

theorem tail_any (n : Nat) (w : World) (h : n < 4294967296) :
    Calls Tryz.prog 77 #[.int .u32 n] w fun e w' => e = .returned (.string (tl n)) ∧ Below w.heap.size w w' := by
  have hc := tl_conv n w h
  go_enter Tryz.func77, Tryz.ntmps77
  go_wp2
  go_ret
  exact ⟨rfl, (Below.refl _ _).alloc (Nat.le_refl _) _⟩
theorem rtail_any (n : Nat) (w : World) (h : n < 4294967296) :
    Calls Tryz.prog 80 #[.int .u32 n] w fun e w' => e = .returned (.string (tl n)) ∧ Below w.heap.size w w' := by
  have hc := tl_conv n w h
  go_enter Tryz.func80, Tryz.ntmps80
  go_wp2
  go_ret
  exact ⟨rfl, (Below.refl _ _).alloc (Nat.le_refl _) _⟩

/-- v reads as the texts ss in w -/
structure StrsAt (w : World) (v : Value) (ss : List ByteArray) : Prop where
  is : ∃ base cap, v = .slice base ss.length cap ∧ ∀ j s, ss[j]? = some s → ∃ a : Addr, base = some a ∧ a.block < w.heap.size ∧ w.cell? (a.add j) = some (.string s)
theorem one_strs (w : World) (s : ByteArray) : StrsAt (w.alloc (.cells #[.string s] 9)) (.slice (some ⟨w.heap.size, 0, none⟩) 1 1) [s] := by
  refine ⟨some ⟨w.heap.size, 0, none⟩, 1, rfl, ?_⟩
  intro j t ht
  refine ⟨_, rfl, by simp, ?_⟩
  rw [add_addr, cell_of_row _ _ _ _ _ _ (heap_alloc_new w _)]
  rcases j with _ | j
  · simp at ht; subst ht; rfl
  · simp at ht
theorem two_strs (w : World) (s t : ByteArray) : StrsAt (w.alloc (.cells #[.string s, .string t] 9)) (.slice (some ⟨w.heap.size, 0, none⟩) 2 2) [s, t] := by
  refine ⟨some ⟨w.heap.size, 0, none⟩, 2, rfl, ?_⟩
  intro j u hu
  refine ⟨_, rfl, by simp, ?_⟩
  rw [add_addr, cell_of_row _ _ _ _ _ _ (heap_alloc_new w _)]
  rcases j with _ | _ | j
  · simp at hu; subst hu; rfl
  · simp at hu; subst hu; rfl
  · simp at hu
def allB (ss : List ByteArray) : List Nat := (ss.map bl).flatten
theorem allB_snoc (ss : List ByteArray) (k : Nat) (s : ByteArray) (h : ss[k]? = some s) : allB (ss.take (k + 1)) = allB (ss.take k) ++ bl s := by
  unfold allB
  rw [List.take_add_one, h]
  simp
theorem allB_two (s t : ByteArray) : allB [s, t] = bl s ++ bl t := by simp [allB]
theorem allB_lt (ss : List ByteArray) : ∀ x ∈ allB ss, x < 256 := by
  intro x hx
  simp only [allB, List.mem_flatten, List.mem_map] at hx
  obtain ⟨l, ⟨s, _, rfl⟩, hx⟩ := hx
  exact bl_lt s x hx

theorem of_any {w : World} {v : Value} {ss : List ByteArray} (hv : StrsAt w v ss) (hl : ss.length ≤ 9223372036854775807) (hz : ∀ s ∈ ss, s.size ≤ 9223372036854775807) :
    Calls Tryz.prog 78 #[v] w fun e w' => e = .returned (.int .u32 (mor 0 (allB ss) : Nat)) ∧ w = w' := by
  obtain ⟨base, cap, rfl, hc⟩ := hv.is
  clear hv
  have HC := Lib.hid hc
  have HZ := Lib.hid hz
  clear hc hz
  go_enter Tryz.func78, Tryz.ntmps78
  go_wp2
  go_loopw [3, 8] (fun x i wr => ∃ k : Nat, k ≤ ss.length ∧ x = .int .u32 (mor 0 (allB (ss.take k)) : Nat) ∧ i = .int .i64 k ∧ w = wr) (fun _ i _ => ss.length - (intOf i).toNat)
  case atStart => exact ⟨0, Nat.zero_le _, by rw [List.take_zero, show allB [] = [] from rfl, mor_nil]; rfl, rfl, rfl⟩
  case round =>
    obtain ⟨k, hk, rfl, rfl, rfl⟩ := hrel
    by_cases hlt : k < ss.length
    · obtain ⟨s, hs⟩ : ∃ s, ss[k]? = some s := ⟨ss[k], List.getElem?_eq_getElem hlt⟩
      obtain ⟨a, rfl, ha, hcell⟩ := HC.out k s hs
      have hsz := HZ.out s (List.mem_of_getElem? hs)
      have HS := Lib.hid hs
      clear hs
      have l1 : (k : Int) < (ss.length : Int) := by omega
      go_wp2_with fail
      refine (more_any (mor 0 (allB (ss.take k))) s _ (mor_lt (by decide) (allB_lt _)) hsz).mono ?_
      rintro e w' ⟨rfl, rfl⟩
      go_wp2
      go_roundw
      case rel => exact ⟨k + 1, by omega, by rw [allB_snoc ss k s HS.out, mor_append], by go_num, trivial⟩
      case measure => simp [intOf]; omega
    · have e : ss.take k = ss := List.take_of_length_le (by omega)
      have l1 : ¬ (k : Int) < (ss.length : Int) := by omega
      rw [e]
      go_wp2
      go_ret
      exact ⟨rfl, rfl⟩
end Go.Proofs.YtdmgobffhpgjlaaGreat.Cr
end

section
namespace Go.Proofs.YtdmgobffhpgjlaaGreat.Cr
open Go.RowKit Go.PlainAid
set_option linter.unusedVariables false
set_option maxRecDepth 20000

section
variable {P : Program} {md : Region.Mode} {ops : Array Oper} {Q : Exit → Act → World → Prop} {S : World → Prop} {i fuel : Nat} {listed : Array Bool} {a : Act} {w : World} {oi : Oper}
theorem held_take (i : Nat) (v : Value) (hi : ops[i]? = some oi) (hs : Region.noSelect ops = true) (hf : Region.free md ops listed i = true) (hr : (Region.ready md ops listed).contains i = true)
    (hQ : ∀ c a w, Q (.panic c) (a.put oi.dst v) w → Q (.panic c) a w) (hy : YieldsIf P ops S oi v a) (hS : S w)
    (h : ∀ K : Act → World → Prop, (∀ a w, wpAnyH P md ops Q S fuel (listed.setIfInBounds i true) a w → K a w) → K (a.put oi.dst v) w) : wpAnyH P md ops Q S (fuel + 1) listed a w :=
  wpAnyH_take hi hs hf hr hQ hy hS (h _ fun _ _ h => h)
theorem held_one (i : Nat) (hr : Region.ready md ops listed = [i])
    (h1 : ∀ K : Act → World → Prop, (∀ a w, S w → wpAnyH P md ops Q S fuel (listed.setIfInBounds i true) a w → K a w) → wpOp P ops Q i K a w) : wpAnyH P md ops Q S (fuel + 1) listed a w :=
  wpAnyH_all hr (by simp) (by intro k hk; simp at hk; subst hk; exact h1 _ fun _ _ hs h => ⟨hs, h⟩)
theorem wpOp_in {K : Act → World → Prop} (hi : ops[i]? = some oi) (hw : Region.wanted oi (yielded ops a.tmps) = true) (h : oi.wp P a w K Q) : wpOp P ops Q i K a w := by
  unfold wpOp
  simp only [hi]
  rw [if_pos hw]
  exact Or.inl h
end

end Go.Proofs.YtdmgobffhpgjlaaGreat.Cr
end

section
namespace Go.Proofs.YtdmgobffhpgjlaaGreat.Cr
open Go.RowKit Go.PlainAid
set_option linter.unusedVariables false
set_option maxRecDepth 20000

theorem wnot {e : Nat} (h : e < 4294967296) : bits .xor .u32 4294967295 (e : Int) = ((e ^^^ 4294967295 : Nat) : Int) := by
  rw [Nat.xor_comm]
  exact u32_xor_nat 4294967295 e (by decide) h
set_option maxHeartbeats 800000 in
theorem rmore_any (sum : Nat) (s : ByteArray) (w : World) (hsum : sum < 4294967296) (hs : s.size ≤ 9223372036854775807) :
    Calls Tryz.prog 81 #[.int .u32 sum, .string s] w fun e w' => e = .returned (.int .u32 (mor sum (bl s) : Nat)) ∧ w = w' := by
  have e0 := wnot hsum
  have hb := get_bt s
  go_enter Tryz.func81, Tryz.ntmps81
  go_wp2
  go_loopw [5, 6] (fun x i wr => ∃ k : Nat, k ≤ s.size ∧ x = .int .u32 (crcL (sum ^^^ 4294967295) ((bl s).take k) : Nat) ∧ i = .int .i64 k ∧ w = wr) (fun _ i _ => s.size - (intOf i).toNat)
  case atStart => exact ⟨0, Nat.zero_le _, by rw [List.take_zero, crcL_nil, ← e0]; rfl, rfl, rfl⟩
  case round =>
    obtain ⟨k, hk, rfl, rfl, rfl⟩ := hrel
    have hc := crcL_lt ((bl s).take k) (xor_lt hsum (show 4294967295 < 4294967296 by decide)) (bl_take_lt s k)
    by_cases hlt : k < s.size
    · have l1 : (k : Int) < (s.size : Int) := by omega
      have i1 : (0 : Int) ≤ (k : Int) := Int.natCast_nonneg _
      have b0 := bt_nonneg s k
      have b1 := bt_le s k
      have b2 := bn_lt s k
      have e1 : bits .xor .u32 ((crcL (sum ^^^ 4294967295) ((bl s).take k) : Nat) : Int) (bt s k) = ((crcL (sum ^^^ 4294967295) ((bl s).take k) ^^^ bn s k : Nat) : Int) := by
        rw [← bn_bt]; exact wxor hc (by omega)
      have en := Lib.hid (crcL_snoc (sum ^^^ 4294967295) (bn s k) ((bl s).take k))
      have hx : crcL (sum ^^^ 4294967295) ((bl s).take k) ^^^ bn s k < 4294967296 := xor_lt hc (by omega)
      go_wp2
      generalize crcL (sum ^^^ 4294967295) ((bl s).take k) ^^^ bn s k = y at en hx ⊢
      clear e1 hc b2
      go_loopw [5, 7] (fun x i wr => ∃ t : Nat, t ≤ 8 ∧ x = .int .u32 (stpN t y : Nat) ∧ i = .int .i64 t ∧ w = wr) (fun _ i _ => 8 - (intOf i).toNat)
      case atStart => exact ⟨0, by decide, by rw [stpN_zero], rfl, rfl⟩
      case round =>
        obtain ⟨t, ht, rfl, rfl, rfl⟩ := hrel
        by_cases h8 : t < 8
        · have l8 : (t : Int) < 8 := by omega
          have hy := stpN_lt t hx
          have sn := Lib.hid (stpN_snoc t y)
          generalize stpN t y = z at hy sn ⊢
          have e1 := wand1 hy
          rcases Nat.mod_two_eq_zero_or_one z with e | e
          · rw [e] at e1
            have es := Lib.hid (stp_even e)
            clear e
            go_wp2
            go_roundw
            case rel => exact ⟨t + 1, by omega, by rw [sn.out, es.out]; go_num, by go_num, trivial⟩
            case measure => simp [intOf]; omega
          · rw [e] at e1
            have es := Lib.hid (stp_odd e)
            clear e
            have ex : bits .xor .u32 ((z : Int) / 2) 3988292384 = ((z / 2 ^^^ 3988292384 : Nat) : Int) := by
              rw [show (z : Int) / 2 = ((z / 2 : Nat) : Int) by omega]
              exact wxor (by omega) (by decide)
            go_wp2
            go_roundw
            case rel => exact ⟨t + 1, by omega, by rw [sn.out, es.out], by go_num, trivial⟩
            case measure => simp [intOf]; omega
        · obtain rfl : t = 8 := by omega
          go_wp2
          go_roundw
          case rel => exact ⟨k + 1, by omega, by rw [bl_snoc s k hlt, en.out]; rfl, by go_num, trivial⟩
          case measure => simp [intOf]; omega
    · have l1 : ¬ (k : Int) < (s.size : Int) := by omega
      have e2 := wnot hc
      have e3 : (bl s).take k = bl s := List.take_of_length_le (by rw [bl_len]; omega)
      rw [e3] at e2
      rw [e3]
      clear e3
      go_wp2
      go_ret
      exact ⟨ret_int e2, rfl⟩
end Go.Proofs.YtdmgobffhpgjlaaGreat.Cr
end

section
namespace Go.Proofs.YtdmgobffhpgjlaaGreat.Cr
open Go.RowKit Go.PlainAid
set_option linter.unusedVariables false
set_option maxRecDepth 20000

/-- block B holds the bytes l, which may be written -/
structure RowB (w : World) (B : Nat) (l : List Nat) : Prop where
  cell : ∀ (j x : Nat), l[j]? = some x → w.cell? ⟨B, j, none⟩ = some (.int .u8 (x : Int)) ∧ w.frozen? ⟨B, j, none⟩ = false
theorem RowB.old {w w' : World} {B : Nat} {l : List Nat} (h : RowB w B l) (hw : w'.heap[B]? = w.heap[B]?) : RowB w' B l :=
  ⟨fun j x hx => by rw [World.cell?_of_block (w := w) hw, World.frozen?_of_block (w := w) hw]; exact h.cell j x hx⟩
theorem RowB.below {w w' : World} {B N : Nat} {l : List Nat} (h : RowB w B l) (hb : Below N w w') (hB : B < N) : RowB w' B l := h.old (hb.block B hB)
theorem RowB.alloc {w : World} {B : Nat} {l : List Nat} (h : RowB w B l) (hB : B < w.heap.size) (o : Obj) : RowB (w.alloc o) B l := h.old (Below.heap_alloc _ _ _ hB)
theorem cell_ne {w : World} {B j i : Nat} {u v : Value} (h : j ≠ i) (hc : w.cell? ⟨B, j, none⟩ = some u) : (w.setCell ⟨B, i, none⟩ v).cell? ⟨B, j, none⟩ = some u := by
  rw [World.cell?_setCell_other _ _ _ _ (by intro e; injection e; omega)]; exact hc
theorem RowB.set {w : World} {B : Nat} {l : List Nat} (h : RowB w B l) (i v : Nat) (hi : i < l.length) : RowB (w.setCell ⟨B, i, none⟩ (.int .u8 (v : Int))) B (l.set i v) := by
  refine ⟨fun j x hx => ?_⟩
  rw [World.frozen?_setCell]
  by_cases e : j = i
  · subst e
    rw [List.getElem?_set_self hi] at hx
    obtain rfl : v = x := by simpa using hx
    have c := h.cell j l[j] (List.getElem?_eq_getElem hi)
    exact ⟨World.cell?_setCell_same _ _ _ c.1, c.2⟩
  · rw [List.getElem?_set_ne (by omega)] at hx
    exact ⟨cell_ne e (h.cell j x hx).1, (h.cell j x hx).2⟩
theorem RowB.conv {w : World} {B cap : Nat} {l : List Nat} (h : RowB w B l) (hl : ∀ x ∈ l, x < 256) {n : Nat} (hn : l.length = n) : (convert 87 9 (.slice (some ⟨B, 0, none⟩) n cap)).run Tryz.prog w = .ok (.string (strOf l)) w := by
  subst hn
  have := run_convert_bytes_back (P := Tryz.prog) w 87 9 5 ⟨B, 0, none⟩ cap (l.map UInt8.ofNat) Tryz.underlying87 Tryz.underlying5 Tryz.underlying9 (fun j hj => by
    rw [add_addr]
    have hj' : j < l.length := by simpa using hj
    rw [(h.cell j l[j] (List.getElem?_eq_getElem hj')).1]
    have := hl l[j] (List.getElem_mem hj')
    simp [Nat.mod_eq_of_lt this])
  rw [List.length_map] at this
  exact this
/-! a burst -/
end Go.Proofs.YtdmgobffhpgjlaaGreat.Cr
end
