/-
  Contracts of the leaves of package hexa: what smallDigit, anyDigit, isDecimal and atMost answer for every argument. No conditions but that a byte is a byte.
  Contracts of hexa.isDecimal and hexa.Undec: what they answer for every text of at most 2^62 bytes.
  Heads of messages as plain lists of bytes: tokens, lines, fields, the elements and parameters of a value. No program is spoken of.
  Contracts of the leaves of package field: which bytes tokens and text have, a letter made small, two names held against each other.
  Contracts of consists, IsToken and same of package field, and of IsToken, Text and Find of the document's answers.
  Contracts of hexa.Unhexnum: what it answers for every text of at most 2^62 bytes.
  Rows of bytes that a call makes itself: what string(..) of one gives; a text's first bytes; digits.
-/
import Derived.Test.YtdldoklkenhopaaGreatDoorRows
import Derived.WalkKit
import Derived.Lib.Hide
import Derived.PlainAid
import Derived.Lib.SlTrimSet
import Derived.Deep.RegionHeld3
import Derived.BigQuiet
import Derived.Laws.IdiomStrings
import Derived.Deep.AppendLies
section
namespace Go.Proofs.YtdldoklkenhopaaGreatDoor.Hx
open Go.RowKit
set_option linter.unusedVariables false
set_option maxRecDepth 20000

/-- the value of a small digit of base 16 -/
def sv (c : Int) : Int := if 48 ≤ c ∧ c ≤ 57 then c - 48 else if 97 ≤ c ∧ c ≤ 102 then c - 87 else 0
def sok (c : Int) : Bool := decide (48 ≤ c ∧ c ≤ 57) || decide (97 ≤ c ∧ c ≤ 102)
/-- the value of any digit of base 16 -/
def av (c : Int) : Int := if 65 ≤ c ∧ c ≤ 70 then c - 55 else sv c
def aok (c : Int) : Bool := decide (65 ≤ c ∧ c ≤ 70) || sok c

theorem small_any (c : Int) (w : World) (h0 : 0 ≤ c) (h1 : c ≤ 255) :
    Calls Tryz.prog 116 #[.int .u8 c] w fun e w' => e = .returned (.tuple #[.int .u8 (sv c), .bool (sok c)]) ∧ w = w' := by
  by_cases a : 48 ≤ c
  · by_cases b : c ≤ 57
    · have e1 : sv c = c - 48 := by unfold sv; rw [if_pos ⟨a, b⟩]
      have e2 : sok c = true := by unfold sok; simp [a, b]
      rw [e1, e2]; clear e1 e2
      go_enter Tryz.func116, Tryz.ntmps116
      go_wp2
      go_ret2
      exact ⟨rfl, rfl⟩
    · by_cases a' : 97 ≤ c
      · by_cases b' : c ≤ 102
        · have e1 : sv c = c - 87 := by unfold sv; rw [if_neg (by omega), if_pos ⟨a', b'⟩]
          have e2 : sok c = true := by unfold sok; simp [a', b']
          rw [e1, e2]; clear e1 e2
          go_enter Tryz.func116, Tryz.ntmps116
          go_wp2
          go_ret2
          exact ⟨by rw [show c - 97 + 10 = c - 87 by omega]; rfl, rfl⟩
        · have e1 : sv c = 0 := by unfold sv; rw [if_neg (by omega), if_neg (by omega)]
          have e2 : sok c = false := by unfold sok; simp; omega
          rw [e1, e2]; clear e1 e2
          go_enter Tryz.func116, Tryz.ntmps116
          go_wp2
          go_ret2
          exact ⟨rfl, rfl⟩
      · have e1 : sv c = 0 := by unfold sv; rw [if_neg (by omega), if_neg (by omega)]
        have e2 : sok c = false := by unfold sok; simp; omega
        rw [e1, e2]; clear e1 e2
        go_enter Tryz.func116, Tryz.ntmps116
        go_wp2
        go_ret2
        exact ⟨rfl, rfl⟩
  · have a' : ¬ 97 ≤ c := by omega
    have e1 : sv c = 0 := by unfold sv; rw [if_neg (by omega), if_neg (by omega)]
    have e2 : sok c = false := by unfold sok; simp; omega
    rw [e1, e2]; clear e1 e2
    go_enter Tryz.func116, Tryz.ntmps116
    go_wp2
    go_ret2
    exact ⟨rfl, rfl⟩

theorem any_any (c : Int) (w : World) (h0 : 0 ≤ c) (h1 : c ≤ 255) :
    Calls Tryz.prog 111 #[.int .u8 c] w fun e w' => e = .returned (.tuple #[.int .u8 (av c), .bool (aok c)]) ∧ w = w' := by
  by_cases a : 65 ≤ c
  · by_cases b : c ≤ 70
    · have e1 : av c = c - 55 := by unfold av; rw [if_pos ⟨a, b⟩]
      have e2 : aok c = true := by unfold aok; simp [a, b]
      rw [e1, e2]; clear e1 e2
      go_enter Tryz.func111, Tryz.ntmps111
      go_wp2
      go_ret2
      exact ⟨by rw [show c - 65 + 10 = c - 55 by omega]; rfl, rfl⟩
    · have e1 : av c = sv c := by unfold av; rw [if_neg (by omega)]
      have e2 : aok c = sok c := by unfold aok; simp; omega
      rw [e1, e2]; clear e1 e2
      go_enter Tryz.func111, Tryz.ntmps111
      go_wp2_with fail
      refine (small_any c _ h0 h1).mono ?_
      rintro e w' ⟨rfl, rfl⟩
      go_wp2
      go_ret2
      exact ⟨rfl, rfl⟩
  · have e1 : av c = sv c := by unfold av; rw [if_neg (by omega)]
    have e2 : aok c = sok c := by unfold aok; simp; omega
    rw [e1, e2]; clear e1 e2
    go_enter Tryz.func111, Tryz.ntmps111
    go_wp2_with fail
    refine (small_any c _ h0 h1).mono ?_
    rintro e w' ⟨rfl, rfl⟩
    go_wp2
    go_ret2
    exact ⟨rfl, rfl⟩

/-- a limit's answer -/
def amN (n m : Int) : Int := if 0 ≤ m ∧ n ≤ m ∧ n ≤ 4611686018427387904 then n else 0
def amE (n m : Int) : Int := if 0 ≤ m ∧ n ≤ m ∧ n ≤ 4611686018427387904 then 0 else 14

theorem atMost_any (n m : Int) (w : World) (h0 : 0 ≤ n) (h1 : n ≤ 18446744073709551615) (h2 : -9223372036854775808 ≤ m) (h3 : m ≤ 9223372036854775807) :
    Calls Tryz.prog 106 #[.int .u64 n, .int .i64 m] w fun e w' => e = .returned (.tuple #[.int .i64 (amN n m), .int .i64 (amE n m)]) ∧ w = w' := by
  by_cases a : m < 0
  · have e1 : amN n m = 0 := by unfold amN; rw [if_neg (by omega)]
    have e2 : amE n m = 14 := by unfold amE; rw [if_neg (by omega)]
    rw [e1, e2]; clear e1 e2
    go_enter Tryz.func106, Tryz.ntmps106
    go_wp2
    go_ret2
    exact ⟨rfl, rfl⟩
  · have a' : 0 ≤ m := by omega
    by_cases b : m < n
    · have e1 : amN n m = 0 := by unfold amN; rw [if_neg (by omega)]
      have e2 : amE n m = 14 := by unfold amE; rw [if_neg (by omega)]
      rw [e1, e2]; clear e1 e2
      go_enter Tryz.func106, Tryz.ntmps106
      go_wp2
      go_ret2
      exact ⟨rfl, rfl⟩
    · by_cases c : 4611686018427387904 < n
      · have e1 : amN n m = 0 := by unfold amN; rw [if_neg (by omega)]
        have e2 : amE n m = 14 := by unfold amE; rw [if_neg (by omega)]
        rw [e1, e2]; clear e1 e2
        go_enter Tryz.func106, Tryz.ntmps106
        go_wp2
        go_ret2
        exact ⟨rfl, rfl⟩
      · have e1 : amN n m = n := by unfold amN; rw [if_pos (by omega)]
        have e2 : amE n m = 0 := by unfold amE; rw [if_pos (by omega)]
        rw [e1, e2]; clear e1 e2
        go_enter Tryz.func106, Tryz.ntmps106
        go_wp2
        go_ret2
        exact ⟨rfl, rfl⟩
end Go.Proofs.YtdldoklkenhopaaGreatDoor.Hx
end

section
namespace Go.Proofs.YtdldoklkenhopaaGreatDoor.Hx
open Go.RowKit Go.PlainAid
set_option linter.unusedVariables false
set_option maxRecDepth 20000

/-- the first k bytes are decimal digits -/
def AllDig (s : ByteArray) (k : Nat) : Prop := ∀ j, j < k → 48 ≤ bt s j ∧ bt s j ≤ 57
theorem AllDig.zero (s : ByteArray) : AllDig s 0 := fun _ h => absurd h (Nat.not_lt_zero _)
theorem AllDig.succ {s : ByteArray} {k : Nat} (h : AllDig s k) (h0 : 48 ≤ bt s k) (h1 : bt s k ≤ 57) : AllDig s (k + 1) := fun j hj => by
  by_cases e : j = k
  · subst e; exact ⟨h0, h1⟩
  · exact h j (by omega)

/-- a text is a decimal number's: some digits, of more than one the first isn't 0 -/
def DecForm (s : ByteArray) : Prop := 0 < s.size ∧ (1 < s.size → bt s 0 ≠ 48) ∧ AllDig s s.size

theorem toList_nil (s : ByteArray) (h : s.size = 0) : s.toList = [] := by
  rw [ByteArray.toList_eq]; apply List.eq_nil_of_length_eq_zero; simpa using h
theorem toList_ne (s : ByteArray) (h : 0 < s.size) : s.toList.isEmpty = false := by
  rw [ByteArray.toList_eq]
  cases e : s.data.toList with
  | nil => have : s.data.toList.length = 0 := by rw [e]; rfl
           have h2 : s.size = s.data.toList.length := by simp
           omega
  | cons a b => rfl
theorem toList_ne' (s : ByteArray) (h : 0 < s.size) : ¬ s.toList = [] := by
  have := toList_ne s h
  intro e; rw [e] at this; cases this

theorem isDecimal_empty (s : ByteArray) (w : World) (h : s.size = 0) :
    Calls Tryz.prog 105 #[.string s] w fun e w' => e = .returned (.bool false) ∧ w = w' := by
  have h1 := toList_nil s h
  clear h
  go_enter Tryz.func105, Tryz.ntmps105
  go_wp2
  go_ret
  exact ⟨rfl, rfl⟩

theorem isDecimal_zero (s : ByteArray) (w : World) (h : 1 < s.size) (h48 : bt s 0 = 48) :
    Calls Tryz.prog 105 #[.string s] w fun e w' => e = .returned (.bool false) ∧ w = w' := by
  have h1 := toList_ne s (by omega)
  have h2 := toList_ne' s (by omega)
  have hb := get_bt s
  have h3 : (bt s 0 == 48) = true := by rw [h48]; rfl
  clear h48
  go_enter Tryz.func105, Tryz.ntmps105
  go_wp2
  go_ret
  exact ⟨rfl, rfl⟩

def IsDecPost (s : ByteArray) (w : World) (e : Ending) (w' : World) : Prop := ∃ b : Bool, e = .returned (.bool b) ∧ (b = true ↔ DecForm s) ∧ w = w'

theorem isDecimal_loop (s : ByteArray) (w : World) (hs : s.size ≤ 4611686018427387904) (h : 0 < s.size) (hc : s.size ≤ 1 ∨ (1 < s.size ∧ (bt s 0 == 48) = false)) :
    Calls Tryz.prog 105 #[.string s] w (IsDecPost s w) := by
  have h1 := toList_ne s h
  have h2 := toList_ne' s h
  have hb := get_bt s
  have hz : 1 < s.size → bt s 0 ≠ 48 := by
    rcases hc with hc | ⟨_, hc⟩
    · omega
    · intro _; simpa using hc
  have Hz := Lib.hid hz
  clear hz
  rcases hc with hc | ⟨hc, hc2⟩
  all_goals
    go_enter Tryz.func105, Tryz.ntmps105
    go_wp2
    go_loop [3] (fun i => ∃ k : Nat, k ≤ s.size ∧ i = .int .i64 k ∧ AllDig s k) (fun i => s.size - (intOf i).toNat)
    case atStart => exact ⟨0, Nat.zero_le _, rfl, AllDig.zero s⟩
    case round =>
      obtain ⟨k, hk, rfl, hd⟩ := hrel
      have b0 := bt_nonneg s k
      have b1 := bt_le s k
      by_cases hlt : k < s.size
      · by_cases c1 : bt s k < 48
        · go_wp2
          go_ret
          exact ⟨false, rfl, ⟨(fun h => by cases h), fun h => by have := (h.2.2 k hlt).1; omega⟩, rfl⟩
        · by_cases c2 : 57 < bt s k
          · go_wp2
            go_ret
            exact ⟨false, rfl, ⟨(fun h => by cases h), fun h => by have := (h.2.2 k hlt).2; omega⟩, rfl⟩
          · go_wp2
            go_round
            case rel => exact ⟨k + 1, by omega, by go_num, hd.succ (by omega) (by omega)⟩
            case measure => simp [intOf]; omega
      · have e : k = s.size := by omega
        have hf : DecForm s := ⟨h, Hz.out, e ▸ hd⟩
        clear e
        go_wp2
        go_ret
        exact ⟨true, rfl, ⟨fun _ => hf, fun _ => rfl⟩, rfl⟩

theorem isDecimal_any (s : ByteArray) (w : World) (hs : s.size ≤ 4611686018427387904) :
    Calls Tryz.prog 105 #[.string s] w (IsDecPost s w) := by
  by_cases h : s.size = 0
  · exact (isDecimal_empty s w h).mono fun e w' ⟨he, hw⟩ => ⟨false, he, ⟨(fun h => by cases h), fun h' => by have := h'.1; omega⟩, hw⟩
  · by_cases h1 : 1 < s.size
    · by_cases h2 : bt s 0 = 48
      · exact (isDecimal_zero s w h1 h2).mono fun e w' ⟨he, hw⟩ => ⟨false, he, ⟨(fun h => by cases h), fun h' => absurd h2 (h'.2.1 h1)⟩, hw⟩
      · exact isDecimal_loop s w hs (by omega) (.inr ⟨h1, by simpa using h2⟩)
    · exact isDecimal_loop s w hs (by omega) (.inl (by omega))
theorem isDecimal_yes (s : ByteArray) (w : World) (hs : s.size ≤ 4611686018427387904) (h : DecForm s) :
    Calls Tryz.prog 105 #[.string s] w fun e w' => e = .returned (.bool true) ∧ w = w' :=
  (isDecimal_any s w hs).mono fun e w' ⟨b, he, hb, hw⟩ => by rw [hb.2 h] at he; exact ⟨he, hw⟩
theorem isDecimal_no (s : ByteArray) (w : World) (hs : s.size ≤ 4611686018427387904) (h : ¬ DecForm s) :
    Calls Tryz.prog 105 #[.string s] w fun e w' => e = .returned (.bool false) ∧ w = w' :=
  (isDecimal_any s w hs).mono fun e w' ⟨b, he, hb, hw⟩ => by
    cases b with
    | true => exact absurd (hb.1 rfl) h
    | false => exact ⟨he, hw⟩

/-- the number of the first k decimal digits -/
def decTo (s : ByteArray) : Nat → Int
  | 0 => 0
  | k + 1 => decTo s k * 10 + (bt s k - 48)
theorem decTo_bd {s : ByteArray} {n : Nat} (h : AllDig s n) : ∀ k, k ≤ n → 0 ≤ decTo s k ∧ decTo s k < 10 ^ k
  | 0, _ => ⟨Int.le_refl _, show (0 : Int) < 10 ^ 0 by decide⟩
  | k + 1, hk => by
    have ih := decTo_bd h k (by omega)
    have hd := h k (by omega)
    have e : (10 : Int) ^ (k + 1) = 10 ^ k * 10 := Int.pow_succ 10 k
    simp only [decTo]
    omega
/-- of at most 19 digits: it fits -/
theorem decTo_fits {s : ByteArray} {n : Nat} (h : AllDig s n) (hn : n ≤ 19) (k : Nat) (hk : k ≤ n) : 0 ≤ decTo s k ∧ decTo s k ≤ 10000000000000000000 := by
  have hb := decTo_bd h k hk
  have hp : (10 : Nat) ^ k ≤ 10 ^ 19 := Nat.pow_le_pow_right (by decide) (by omega)
  have hp' : (10 : Int) ^ k ≤ 10 ^ 19 := by exact_mod_cast hp
  have e : (10 : Int) ^ 19 = 10000000000000000000 := by decide
  omega
theorem decTo_small {s : ByteArray} {n : Nat} (h : AllDig s n) (hn : n ≤ 19) (k : Nat) (hk : k < n) : 0 ≤ decTo s k ∧ decTo s k ≤ 1000000000000000000 := by
  have hb := decTo_bd h k (by omega)
  have hp : (10 : Nat) ^ k ≤ 10 ^ 18 := Nat.pow_le_pow_right (by decide) (by omega)
  have hp' : (10 : Int) ^ k ≤ 10 ^ 18 := by exact_mod_cast hp
  have e : (10 : Int) ^ 18 = 1000000000000000000 := by decide
  omega

theorem undec_form (s : ByteArray) (m : Int) (w : World) (hs : s.size ≤ 4611686018427387904) (h : ¬ DecForm s) :
    Calls Tryz.prog 88 #[.string s, .int .i64 m] w fun e w' => e = .returned (.tuple #[.int .i64 0, .int .i64 3]) ∧ w = w' := by
  have H := Lib.hid h
  clear h
  go_enter Tryz.func88, Tryz.ntmps88
  go_wp2_with fail
  refine (isDecimal_no s _ hs H.out).mono ?_
  rintro e w' ⟨rfl, rfl⟩
  go_wp2
  go_ret2
  exact ⟨rfl, rfl⟩

theorem undec_long (s : ByteArray) (m : Int) (w : World) (hs : s.size ≤ 4611686018427387904) (h : DecForm s) (hl : 19 < s.size) :
    Calls Tryz.prog 88 #[.string s, .int .i64 m] w fun e w' => e = .returned (.tuple #[.int .i64 0, .int .i64 14]) ∧ w = w' := by
  have H := Lib.hid h
  clear h
  go_enter Tryz.func88, Tryz.ntmps88
  go_wp2_with fail
  refine (isDecimal_yes s _ hs H.out).mono ?_
  rintro e w' ⟨rfl, rfl⟩
  go_wp2
  go_ret2
  exact ⟨rfl, rfl⟩

theorem undec_short (s : ByteArray) (m : Int) (w : World) (h : DecForm s) (hl : s.size ≤ 19) (h2 : -9223372036854775808 ≤ m) (h3 : m ≤ 9223372036854775807) :
    Calls Tryz.prog 88 #[.string s, .int .i64 m] w fun e w' => e = .returned (.tuple #[.int .i64 (amN (decTo s s.size) m), .int .i64 (amE (decTo s s.size) m)]) ∧ w = w' := by
  have H := Lib.hid h
  clear h
  have hb := get_bt s
  go_enter Tryz.func88, Tryz.ntmps88
  go_wp2_with fail
  refine (isDecimal_yes s _ (by omega) H.out).mono ?_
  rintro e w' ⟨rfl, rfl⟩
  go_wp2
  go_loop [6, 7] (fun n i => ∃ k : Nat, k ≤ s.size ∧ i = .int .i64 k ∧ n = .int .u64 (decTo s k)) (fun _ i => s.size - (intOf i).toNat)
  case atStart => exact ⟨0, Nat.zero_le _, rfl, rfl⟩
  case round =>
    obtain ⟨k, hk, rfl, rfl⟩ := hrel
    by_cases hlt : k < s.size
    · have b := H.out.2.2 k hlt
      obtain ⟨b0, b1⟩ := b
      have d := decTo_small H.out.2.2 hl k hlt
      obtain ⟨d0, d1⟩ := d
      go_wp2
      go_round
      case rel => exact ⟨k + 1, by omega, by go_num, by simp only [decTo]⟩
      case measure => simp [intOf]; omega
    · have e : k = s.size := by omega
      have d := decTo_fits H.out.2.2 hl k hk
      obtain ⟨d0, d1⟩ := d
      have E := Lib.hid e
      clear e
      go_wp2_with fail
      refine (atMost_any _ _ _ (by omega) (by omega) h2 h3).mono ?_
      rintro e w' ⟨rfl, rfl⟩
      rw [E.out]
      go_wp2
      go_ret2
      exact ⟨rfl, rfl⟩
end Go.Proofs.YtdldoklkenhopaaGreatDoor.Hx
end

section
namespace Go.Proofs.YtdldoklkenhopaaGreatDoor.Fi
open Go.RowKit Go.PlainAid
open Hx
set_option linter.unusedVariables false
set_option maxRecDepth 20000
set_option linter.unusedSimpArgs false

/-! ### texts and their bytes -/
def ls (s : ByteArray) : List UInt8 := s.data.toList
def tx (l : List UInt8) : ByteArray := ⟨l.toArray⟩
theorem ls_tx (l : List UInt8) : ls (tx l) = l := by simp [ls, tx]
theorem tx_ls (s : ByteArray) : tx (ls s) = s := by cases s; simp [ls, tx]
theorem ls_len (s : ByteArray) : (ls s).length = s.size := by simp [ls]
theorem tx_size (l : List UInt8) : (tx l).size = l.length := rfl
theorem ls_inj {a b : ByteArray} (h : ls a = ls b) : a = b := by rw [← tx_ls a, h, tx_ls]
theorem tx_inj {a b : List UInt8} (h : tx a = tx b) : a = b := by rw [← ls_tx a, h, ls_tx]
theorem eq_tx {s : ByteArray} {l : List UInt8} (h : ls s = l) : s = tx l := by rw [← h, tx_ls]
theorem ls_extract (s : ByteArray) (a b : Nat) : ls (s.extract a b) = ((ls s).drop a).take (b - a) := by
  simp [ls, ByteArray.data_extract, List.take_drop]
theorem ls_append (a b : ByteArray) : ls (a ++ b) = ls a ++ ls b := by simp [ls, ByteArray.data_append]
theorem tx_append (a b : List UInt8) : tx a ++ tx b = tx (a ++ b) := ls_inj (by rw [ls_append, ls_tx, ls_tx, ls_tx])
theorem ls_nil : ls ⟨#[]⟩ = [] := rfl
theorem tx_nil : tx [] = ⟨#[]⟩ := rfl
theorem ls_empty {s : ByteArray} (h : s.size = 0) : ls s = [] := List.eq_nil_of_length_eq_zero (by rw [ls_len, h])
theorem ls_ne {s : ByteArray} (h : 0 < s.size) : ls s ≠ [] := fun e => by have := ls_len s; rw [e] at this; simp at this; omega
theorem ls_toList (s : ByteArray) : s.toList = ls s := ByteArray.toList_eq s
theorem get_ls {s : ByteArray} {k : Nat} (h : k < s.size) : ∃ c, (ls s)[k]? = some c ∧ bt s k = (c.toNat : Int) ∧ ls s = (ls s).take k ++ c :: (ls s).drop (k + 1) ∧ (ls s).take (k + 1) = (ls s).take k ++ [c] ∧ (ls s).drop k = c :: (ls s).drop (k + 1) := by
  have hk : k < (ls s).length := by rw [ls_len]; exact h
  have hd : (ls s).drop k = (ls s)[k] :: (ls s).drop (k + 1) := List.drop_eq_getElem_cons hk
  refine ⟨(ls s)[k], List.getElem?_eq_getElem hk, ?_, ?_, ?_, hd⟩
  · unfold bt; rw [dif_pos h]; rfl
  · rw [← hd, List.take_append_drop]
  · rw [List.take_succ_eq_append_getElem hk]
theorem byte_eq (c d : UInt8) : ((c.toNat : Int) = (d.toNat : Int)) ↔ c = d :=
  ⟨fun h => UInt8.toNat_inj.1 (by omega), fun h => by rw [h]⟩

/-! ### tokens, text bytes, letters -/
def tokN (c : Int) : Bool := decide (97 ≤ c ∧ c ≤ 122) || decide (65 ≤ c ∧ c ≤ 90) || decide (48 ≤ c ∧ c ≤ 57) || ([33, 35, 36, 37, 38, 39, 42, 43, 45, 46, 94, 95, 96, 124, 126] : List Int).contains c
def txtN (c : Int) : Bool := decide (c = 9) || (decide (32 ≤ c) && !decide (c = 127))
def lowN (c : Int) : Int := if 65 ≤ c ∧ c ≤ 90 then c + 32 else c
def tokB (c : UInt8) : Bool := tokN (c.toNat : Int)
def txtB (c : UInt8) : Bool := txtN (c.toNat : Int)
def lowB (c : UInt8) : UInt8 := UInt8.ofNat (lowN (c.toNat : Int)).toNat
theorem lowB_nat (c : UInt8) : ((lowB c).toNat : Int) = lowN (c.toNat : Int) := by
  have := c.toNat_lt
  unfold lowB lowN
  rw [UInt8.toNat_ofNat']
  split <;> omega
def isTok (l : List UInt8) : Bool := !l.isEmpty && l.all tokB
def isTxt (l : List UInt8) : Bool := l.all txtB
def trimT (l : List UInt8) : List UInt8 := Lib.trimS l [32, 9]
def low (l : List UInt8) : List UInt8 := l.map lowB
def sameL (a b : List UInt8) : Bool := low a == low b
theorem sameL_iff (a b : List UInt8) : sameL a b = true ↔ low a = low b := by unfold sameL; exact beq_iff_eq
theorem trimT_le (l : List UInt8) : (trimT l).length ≤ l.length := by
  unfold trimT Lib.trimS Lib.trimLeftS Lib.trimRightS
  refine Nat.le_trans (List.dropWhile_sublist _).length_le ?_
  rw [List.length_reverse]
  refine Nat.le_trans (List.dropWhile_sublist _).length_le ?_
  rw [List.length_reverse]; exact Nat.le_refl _

/-! ### fields -/
structure Fd where
  n : ByteArray
  v : ByteArray
def Fd.zero : Fd := ⟨⟨#[]⟩, ⟨#[]⟩⟩
structure Fd.Ok (f : Fd) : Prop where
  n : f.n.size ≤ 9223372036854775807
  v : f.v.size ≤ 9223372036854775807
/-- at the first byte b: what is ahead of it, what is behind it -/
def cutB (b : UInt8) : List UInt8 → Option (List UInt8 × List UInt8)
  | [] => none
  | c :: l => if c = b then some ([], l) else (cutB b l).map fun x => (c :: x.1, x.2)
theorem cutB_some {b : UInt8} : ∀ {l x y : List UInt8}, cutB b l = some (x, y) → l = x ++ b :: y ∧ b ∉ x
  | [], x, y, h => by simp [cutB] at h
  | c :: l, x, y, h => by
    unfold cutB at h
    split at h
    · rename_i hc
      simp at h
      obtain ⟨rfl, rfl⟩ := h
      subst hc
      exact ⟨rfl, by simp⟩
    · rename_i hc
      cases hq : cutB b l with
      | none => rw [hq] at h; simp at h
      | some p =>
        rw [hq] at h
        simp at h
        obtain ⟨rfl, rfl⟩ := h
        obtain ⟨e1, e2⟩ := cutB_some (x := p.1) (y := p.2) hq
        refine ⟨by rw [e1]; rfl, ?_⟩
        simp only [List.mem_cons, not_or]
        exact ⟨fun e => hc e.symm, e2⟩
theorem cutB_none {b : UInt8} : ∀ {l : List UInt8}, cutB b l = none ↔ b ∉ l
  | [] => by simp [cutB]
  | c :: l => by
    unfold cutB
    split
    · rename_i hc; subst hc; simp
    · rename_i hc
      rw [Option.map_eq_none_iff, cutB_none, List.mem_cons, not_or]
      exact ⟨fun h => ⟨fun e => hc e.symm, h⟩, fun h => h.2⟩
theorem cutB_of {b : UInt8} : ∀ {x y : List UInt8}, b ∉ x → cutB b (x ++ b :: y) = some (x, y)
  | [], y, h => by simp [cutB]
  | c :: x, y, h => by
    have hc : ¬ c = b := fun e => h (by simp [e])
    have ih := cutB_of (x := x) (y := y) (fun e : b ∈ x => h (List.mem_cons_of_mem _ e))
    rw [List.cons_append, cutB, if_neg hc, ih]
    rfl
/-- the field of a line -/
def parseF (l : List UInt8) : Option Fd :=
  match cutB 58 l with
  | none => none
  | some (x, y) => if isTok x = true ∧ isTxt y = true then some ⟨tx x, tx (trimT y)⟩ else none
def printF (f : Fd) : List UInt8 := ls f.n ++ [58, 32] ++ ls f.v
def goodF (f : Fd) : Bool := isTok (ls f.n) && isTxt (ls f.v) && (trimT (ls f.v) == ls f.v)

/-! ### heads -/
/-- the line that a text begins with, without its end, and what is behind it; or what is wrong: 17, 4, 3 -/
def lineF (full : Bool) (l : List UInt8) : Except Int (List UInt8 × List UInt8) :=
  match cutB 10 l with
  | none => .error (if full = true then 4 else 17)
  | some (t, r) => if t.getLast? = some 13 ∧ (13 : UInt8) ∉ t.dropLast then .ok (t.dropLast, r) else .error 3
theorem crlf_iff (t : List UInt8) : (t.getLast? = some 13 ∧ (13 : UInt8) ∉ t.dropLast) ↔ ∃ x, t = x ++ [13] ∧ (13 : UInt8) ∉ x := by
  constructor
  · rintro ⟨h1, h2⟩
    obtain ⟨x, rfl⟩ := List.getLast?_eq_some_iff.1 h1
    exact ⟨x, rfl, by simpa using h2⟩
  · rintro ⟨x, rfl, h⟩
    simpa using h
theorem lineF_ok {full : Bool} {l x r : List UInt8} (h : lineF full l = .ok (x, r)) : l = x ++ 13 :: 10 :: r ∧ (13 : UInt8) ∉ x ∧ (10 : UInt8) ∉ x := by
  unfold lineF at h
  cases hq : cutB 10 l with
  | none => rw [hq] at h; cases h
  | some p =>
    obtain ⟨t, r'⟩ := p
    rw [hq] at h
    simp only at h
    split at h
    · rename_i hc
      obtain ⟨z, rfl, hz⟩ := (crlf_iff t).1 hc
      simp at h
      obtain ⟨rfl, rfl⟩ := h
      obtain ⟨e1, e2⟩ := cutB_some hq
      exact ⟨by rw [e1]; simp, hz, fun e => e2 (by simp [e])⟩
    · cases h
theorem lineF_nil {full : Bool} : lineF full [] = .error (if full = true then 4 else 17) := rfl
theorem lineF_len {full : Bool} {l x r : List UInt8} (h : lineF full l = .ok (x, r)) : l.length = x.length + 2 + r.length := by
  rw [(lineF_ok h).1]; simp; omega
theorem lineF_mk (full : Bool) {x : List UInt8} (r : List UInt8) (h3 : (13 : UInt8) ∉ x) (h0 : (10 : UInt8) ∉ x) : lineF full (x ++ 13 :: 10 :: r) = .ok (x, r) := by
  unfold lineF
  have e : x ++ 13 :: 10 :: r = (x ++ [13]) ++ 10 :: r := by simp
  rw [e, cutB_of (by simp [h0])]
  simp only
  rw [if_pos ((crlf_iff _).2 ⟨x, rfl, h3⟩)]
  simp
structure Out where
  err : Int
  list : List Fd
  n : Nat
/-- the fields of the lines l, the first of which begins at at, behind the fields acc -/
def fldF (full : Bool) (l : List UInt8) (at_ : Nat) (acc : List Fd) : Out :=
  match h : lineF full l with
  | .error e => ⟨e, [], 0⟩
  | .ok (x, r) =>
    if x = [] then ⟨0, acc, at_ + 2⟩
    else match parseF x with
      | none => ⟨3, [], 0⟩
      | some f => if acc.length = 32 then ⟨4, [], 0⟩ else fldF full r (at_ + x.length + 2) (acc ++ [f])
termination_by l.length
decreasing_by
  have := lineF_len h
  omega
theorem fldF_eq (full : Bool) (l : List UInt8) (at_ : Nat) (acc : List Fd) : fldF full l at_ acc =
    match lineF full l with
    | .error e => ⟨e, [], 0⟩
    | .ok (x, r) =>
      if x = [] then ⟨0, acc, at_ + 2⟩
      else match parseF x with
        | none => ⟨3, [], 0⟩
        | some f => if acc.length = 32 then ⟨4, [], 0⟩ else fldF full r (at_ + x.length + 2) (acc ++ [f]) := by
  rw [fldF]
  split <;> rename_i h
  · rw [h]
  · rw [h]
theorem fldF_err {full : Bool} {l : List UInt8} (at_ : Nat) (acc : List Fd) {e : Int} (h : lineF full l = .error e) : fldF full l at_ acc = ⟨e, [], 0⟩ := by
  rw [fldF_eq, h]
theorem fldF_end {full : Bool} {l r : List UInt8} (at_ : Nat) (acc : List Fd) (h : lineF full l = .ok ([], r)) : fldF full l at_ acc = ⟨0, acc, at_ + 2⟩ := by
  rw [fldF_eq, h]; rfl
theorem fldF_form {full : Bool} {l x r : List UInt8} (at_ : Nat) (acc : List Fd) (h : lineF full l = .ok (x, r)) (hx : x ≠ []) (hp : parseF x = none) : fldF full l at_ acc = ⟨3, [], 0⟩ := by
  rw [fldF_eq, h]; simp only; rw [if_neg hx, hp]
theorem fldF_long {full : Bool} {l x r : List UInt8} {f : Fd} (at_ : Nat) (acc : List Fd) (h : lineF full l = .ok (x, r)) (hx : x ≠ []) (hp : parseF x = some f) (hl : acc.length = 32) : fldF full l at_ acc = ⟨4, [], 0⟩ := by
  rw [fldF_eq, h]; simp only; rw [if_neg hx, hp]; simp only; rw [if_pos hl]
theorem fldF_step {full : Bool} {l x r : List UInt8} {f : Fd} (at_ : Nat) (acc : List Fd) (h : lineF full l = .ok (x, r)) (hx : x ≠ []) (hp : parseF x = some f) (hl : acc.length ≠ 32) : fldF full l at_ acc = fldF full r (at_ + x.length + 2) (acc ++ [f]) := by
  rw [fldF_eq, h]; simp only; rw [if_neg hx, hp]; simp only; rw [if_neg hl]
/-- a text's head -/
structure Hd where
  err : Int
  start : List UInt8
  list : List Fd
  n : Nat
def spl (s : List UInt8) : Hd :=
  match lineF (decide (4096 ≤ s.length)) (s.take 4096) with
  | .error e => ⟨e, [], [], 0⟩
  | .ok (x, r) =>
    if x = [] then ⟨3, [], [], 0⟩
    else if 1024 < x.length then ⟨4, [], [], 0⟩
    else
      let o := fldF (decide (4096 ≤ s.length)) r (x.length + 2) []
      ⟨o.err, if o.err = 0 then x else [], o.list, o.n⟩

/-! ### whatever comes later -/
theorem lineF_more {l : List UInt8} (q : List UInt8) (full : Bool) {x : List UInt8 × List UInt8} (h : lineF false l = .ok x) : lineF full (l ++ q) = .ok (x.1, x.2 ++ q) := by
  obtain ⟨x, r⟩ := x
  obtain ⟨e, h3, h0⟩ := lineF_ok h
  rw [e]
  have := lineF_mk full (r ++ q) h3 h0
  simpa using this
theorem lineF_bad {l : List UInt8} (q : List UInt8) (full : Bool) {e : Int} (h : lineF false l = .error e) (h17 : e ≠ 17) : lineF full (l ++ q) = .error e := by
  unfold lineF at h ⊢
  cases hq : cutB 10 l with
  | none => rw [hq] at h; simp at h; exact absurd h.symm h17
  | some p =>
    obtain ⟨t, r⟩ := p
    rw [hq] at h
    obtain ⟨e1, e2⟩ := cutB_some hq
    have : cutB 10 (l ++ q) = some (t, r ++ q) := by rw [e1, List.append_assoc, List.cons_append, cutB_of e2]
    rw [this]
    simp only at h ⊢
    split
    · rename_i hc; rw [if_pos hc] at h; cases h
    · rename_i hc; rw [if_neg hc] at h; exact h
theorem fldF_more (q : List UInt8) (full : Bool) : ∀ (k : Nat) (l : List UInt8), l.length ≤ k → ∀ (at_ : Nat) (acc : List Fd), (fldF false l at_ acc).err ≠ 17 → fldF full (l ++ q) at_ acc = fldF false l at_ acc := by
  intro k
  induction k with
  | zero =>
    intro l hl at_ acc h
    have : l = [] := List.eq_nil_of_length_eq_zero (by omega)
    subst this
    exact absurd (by rw [fldF_err at_ acc lineF_nil]; rfl) h
  | succ k ih =>
    intro l hl at_ acc h
    cases hq : lineF false l with
    | error e =>
      rw [fldF_err at_ acc hq] at h ⊢
      exact fldF_err at_ acc (lineF_bad q full hq h)
    | ok p =>
      obtain ⟨x, r⟩ := p
      have hm := lineF_more q full hq
      simp only at hm
      have hlen := lineF_len hq
      by_cases hx : x = []
      · subst hx
        rw [fldF_end at_ acc hq, fldF_end at_ acc hm]
      · cases hp : parseF x with
        | none => rw [fldF_form at_ acc hq hx hp, fldF_form at_ acc hm hx hp]
        | some f =>
          by_cases hc : acc.length = 32
          · rw [fldF_long at_ acc hq hx hp hc, fldF_long at_ acc hm hx hp hc]
          · rw [fldF_step at_ acc hq hx hp hc] at h ⊢
            rw [fldF_step at_ acc hm hx hp hc]
            exact ih r (by omega) _ _ h
/-- more bytes make another answer only of what is too short -/
theorem spl_more (p q : List UInt8) (h : (spl p).err ≠ 17) : spl (p ++ q) = spl p := by
  by_cases hl : 4096 ≤ p.length
  · unfold spl
    rw [List.take_append_of_le_length hl, decide_eq_true hl, decide_eq_true (show 4096 ≤ (p ++ q).length by simp; omega)]
  · have e1 : p.take 4096 = p := List.take_of_length_le (by omega)
    have e2 : (p ++ q).take 4096 = p ++ q.take (4096 - p.length) := by
      rw [List.take_append, e1]
    unfold spl at h ⊢
    rw [e1, decide_eq_false hl] at h ⊢
    rw [e2]
    generalize decide (4096 ≤ (p ++ q).length) = full
    generalize q.take (4096 - p.length) = q'
    cases hq : lineF false p with
    | error e =>
      rw [hq] at h
      rw [lineF_bad q' full hq h]
    | ok y =>
      obtain ⟨x, r⟩ := y
      rw [hq] at h
      rw [lineF_more q' full hq]
      simp only at h ⊢
      by_cases hx : x = []
      · rw [if_pos hx, if_pos hx]
      · rw [if_neg hx] at h
        rw [if_neg hx, if_neg hx]
        by_cases hc : 1024 < x.length
        · rw [if_pos hc, if_pos hc]
        · rw [if_neg hc] at h
          rw [if_neg hc, if_neg hc, fldF_more q' full _ r (Nat.le_refl _) _ _ h]
theorem fldF_n (full : Bool) : ∀ (k : Nat) (l : List UInt8), l.length ≤ k → ∀ (at_ : Nat) (acc : List Fd), (fldF full l at_ acc).n ≤ at_ + l.length := by
  intro k
  induction k with
  | zero =>
    intro l hl at_ acc
    have : l = [] := List.eq_nil_of_length_eq_zero (by omega)
    subst this
    rw [fldF_eq]
    rw [lineF_nil]
    simp
  | succ k ih =>
    intro l hl at_ acc
    cases hq : lineF full l with
    | error e => rw [fldF_err at_ acc hq]; simp
    | ok p =>
      obtain ⟨x, r⟩ := p
      have hlen := lineF_len hq
      by_cases hx : x = []
      · subst hx; rw [fldF_end at_ acc hq]; simp; omega
      · cases hp : parseF x with
        | none => rw [fldF_form at_ acc hq hx hp]; simp
        | some f =>
          by_cases hc : acc.length = 32
          · rw [fldF_long at_ acc hq hx hp hc]; simp
          · rw [fldF_step at_ acc hq hx hp hc]
            have := ih r (by omega) (at_ + x.length + 2) (acc ++ [f])
            omega
theorem spl_n (s : List UInt8) : (spl s).n ≤ s.length := by
  unfold spl
  cases hq : lineF (decide (4096 ≤ s.length)) (s.take 4096) with
  | error e => simp
  | ok p =>
    obtain ⟨x, r⟩ := p
    have hlen := lineF_len hq
    rw [List.length_take] at hlen
    simp only
    by_cases hx : x = []
    · rw [if_pos hx]; simp
    · rw [if_neg hx]
      by_cases hc : 1024 < x.length
      · rw [if_pos hc]; simp
      · rw [if_neg hc]
        have := fldF_n (decide (4096 ≤ s.length)) _ r (Nat.le_refl _) (x.length + 2) []
        simp only
        omega
theorem fldF_zero (full : Bool) : ∀ (k : Nat) (l : List UInt8), l.length ≤ k → ∀ (at_ : Nat) (acc : List Fd), (fldF full l at_ acc).err = 0 → at_ + 2 ≤ (fldF full l at_ acc).n := by
  intro k
  induction k with
  | zero =>
    intro l hl at_ acc h
    have : l = [] := List.eq_nil_of_length_eq_zero (by omega)
    subst this
    exfalso
    rw [fldF_err at_ acc lineF_nil] at h
    simp only at h
    split at h <;> cases h
  | succ k ih =>
    intro l hl at_ acc h
    cases hq : lineF full l with
    | error e =>
      rw [fldF_err at_ acc hq] at h
      exfalso
      simp only at h
      subst h
      unfold lineF at hq
      split at hq
      · split at hq <;> simp at hq
      · split at hq <;> simp at hq
    | ok p =>
      obtain ⟨x, r⟩ := p
      have hlen := lineF_len hq
      by_cases hx : x = []
      · subst hx; rw [fldF_end at_ acc hq]; exact Nat.le_refl _
      · cases hp : parseF x with
        | none => rw [fldF_form at_ acc hq hx hp] at h; cases h
        | some f =>
          by_cases hc : acc.length = 32
          · rw [fldF_long at_ acc hq hx hp hc] at h; cases h
          · rw [fldF_step at_ acc hq hx hp hc] at h ⊢
            have := ih r (by omega) (at_ + x.length + 2) (acc ++ [f]) h
            omega

/-! ### what was written is read -/
theorem tok_free {l : List UInt8} (h : isTok l = true) {b : UInt8} (hb : tokB b = false) : b ∉ l := by
  intro hm
  unfold isTok at h
  rw [Bool.and_eq_true, List.all_eq_true] at h
  have := h.2 b hm
  rw [hb] at this; cases this
theorem txt_free {l : List UInt8} (h : isTxt l = true) {b : UInt8} (hb : txtB b = false) : b ∉ l := by
  intro hm
  unfold isTxt at h
  rw [List.all_eq_true] at h
  have := h b hm
  rw [hb] at this; cases this
theorem trim_blank (l : List UInt8) : trimT (32 :: l) = trimT l := by
  unfold trimT Lib.trimS Lib.trimRightS Lib.trimLeftS
  rw [List.reverse_cons, List.dropWhile_append]
  split
  · rename_i h
    rw [List.isEmpty_iff.1 h]
    rfl
  · rename_i h
    rw [List.reverse_append]
    simp [List.dropWhile_cons]
structure Good (f : Fd) : Prop where
  n : isTok (ls f.n) = true
  v : isTxt (ls f.v) = true
  t : trimT (ls f.v) = ls f.v
theorem good_iff (f : Fd) : goodF f = true ↔ Good f := by
  unfold goodF
  rw [Bool.and_eq_true, Bool.and_eq_true, beq_iff_eq]
  exact ⟨fun h => ⟨h.1.1, h.1.2, h.2⟩, fun h => ⟨⟨h.n, h.v⟩, h.t⟩⟩
theorem Good.free {f : Fd} (h : Good f) (b : UInt8) (h1 : tokB b = false) (h2 : txtB b = false) (h3 : b ≠ 58) (h4 : b ≠ 32) : b ∉ printF f := by
  unfold printF
  simp only [List.mem_append, List.mem_cons, List.not_mem_nil, or_false, not_or]
  exact ⟨⟨tok_free h.n h1, h3, h4⟩, txt_free h.v h2⟩
theorem Good.parse {f : Fd} (h : Good f) : parseF (printF f) = some f := by
  unfold parseF printF
  rw [List.append_assoc, List.cons_append, cutB_of (tok_free h.n (by decide))]
  simp only
  have hx : isTxt ([32] ++ ls f.v) = true := by
    have := h.v
    unfold isTxt at this ⊢
    rw [List.all_append, this]; rfl
  rw [if_pos ⟨h.n, hx⟩]
  rw [show [32] ++ ls f.v = 32 :: ls f.v from rfl, trim_blank, h.t, tx_ls, tx_ls]
theorem Good.ne {f : Fd} : printF f ≠ [] := by unfold printF; simp
/-- the lines of fields -/
def linesF : List Fd → List UInt8
  | [] => []
  | f :: l => printF f ++ 13 :: 10 :: linesF l
theorem linesF_append : ∀ (a b : List Fd), linesF (a ++ b) = linesF a ++ linesF b
  | [], b => rfl
  | f :: a, b => by simp [linesF, linesF_append a b]
theorem fldF_lines (full : Bool) : ∀ (l : List Fd), (∀ f ∈ l, Good f) → ∀ (at_ : Nat) (acc : List Fd), acc.length + l.length ≤ 32 → fldF full (linesF l ++ [13, 10]) at_ acc = ⟨0, acc ++ l, at_ + (linesF l).length + 2⟩
  | [], _, at_, acc, _ => by
    have := fldF_end (full := full) (l := [13, 10]) (r := []) at_ acc (lineF_mk full (x := []) [] (by simp) (by simp))
    simpa [linesF] using this
  | f :: l, hg, at_, acc, hl => by
    have g := hg f (by simp)
    simp only [List.length_cons] at hl
    have e : linesF (f :: l) ++ [13, 10] = printF f ++ 13 :: 10 :: (linesF l ++ [13, 10]) := by simp [linesF]
    rw [e, fldF_step at_ acc (lineF_mk full _ (g.free 13 (by decide) (by decide) (by decide) (by decide)) (g.free 10 (by decide) (by decide) (by decide) (by decide))) Good.ne g.parse (by omega)]
    rw [fldF_lines full l (fun x hx => hg x (by simp [hx])) _ _ (by simp; omega)]
    simp [linesF]; omega
def headF (st : List UInt8) (l : List Fd) : List UInt8 := st ++ 13 :: 10 :: (linesF l ++ [13, 10])
theorem spl_head (st : List UInt8) (l : List Fd) (h0 : st ≠ []) (h1 : st.length ≤ 1024) (h3 : (13 : UInt8) ∉ st) (h4 : (10 : UInt8) ∉ st) (hg : ∀ f ∈ l, Good f) (hl : l.length ≤ 32) (hs : (headF st l).length ≤ 4096) :
    spl (headF st l) = ⟨0, st, l, (headF st l).length⟩ := by
  unfold spl
  rw [List.take_of_length_le hs]
  generalize decide (4096 ≤ (headF st l).length) = full
  unfold headF
  rw [lineF_mk full _ h3 h4]
  simp only
  rw [if_neg h0, if_neg (by omega), fldF_lines full l hg _ _ (by simpa using hl)]
  simp
  omega
theorem spl_cut (st : List UInt8) (l : List Fd) (h : spl (headF st l) = ⟨0, st, l, (headF st l).length⟩) (k : Nat) (hk : k < (headF st l).length) : (spl ((headF st l).take k)).err = 17 := by
  by_cases c : (spl ((headF st l).take k)).err = 17
  · exact c
  · have := spl_more _ ((headF st l).drop k) c
    rw [List.take_append_drop, h] at this
    have n := spl_n ((headF st l).take k)
    rw [← this, List.length_take] at n
    simp only at n
    omega
end Go.Proofs.YtdldoklkenhopaaGreatDoor.Fi
end

section
namespace Go.Proofs.YtdldoklkenhopaaGreatDoor.Fi
open Go.RowKit Go.PlainAid
open Hx
set_option linter.unusedVariables false
set_option maxRecDepth 20000
set_option linter.unusedSimpArgs false

/-! ### the library's IndexByte -/
theorem run_index (s : ByteArray) (c : Int) (w : World) : (callFunc 95 #[.string s, .int .u8 c]).run Tryz.prog w = .ok (.value (.int .i64 (firstIdx s c.toNat.toUInt8))) w := by
  rw [run_callFunc_extern (e := Extern.BytealgIndexByte.indexByte) Tryz.func95 (by kernel_rfl) (by kernel_rfl) (by kernel_rfl) (by kernel_rfl), run_indexByte_string]
  rfl
theorem lowIndex_any (s : ByteArray) (c : Int) (w : World) :
    Calls Tryz.prog 81 #[.string s, .int .u8 c] w fun e w' => e = .returned (.int .i64 (firstIdx s c.toNat.toUInt8)) ∧ w = w' := by
  have r := run_index s c
  generalize firstIdx s c.toNat.toUInt8 = z at *
  go_enter Tryz.func81, Tryz.ntmps81
  go_wp2
  all_goals go_ret
  all_goals exact ⟨rfl, rfl⟩
theorem indexByte_any (s : ByteArray) (c : Int) (w : World) :
    Calls Tryz.prog 68 #[.string s, .int .u8 c] w fun e w' => e = .returned (.int .i64 (firstIdx s c.toNat.toUInt8)) ∧ w = w' := by
  have r := lowIndex_any s c w
  generalize firstIdx s c.toNat.toUInt8 = z at *
  go_enter Tryz.func68, Tryz.ntmps68
  go_wp2_with fail
  refine r.mono ?_
  rintro e w' ⟨rfl, rfl⟩
  clear r
  go_wp2
  all_goals go_ret
  all_goals exact ⟨rfl, rfl⟩

/-! ### bytes -/
theorem tok_table : ∀ c : Fin 256, (¬ (97 ≤ c.val ∧ c.val ≤ 122) ∧ ¬ (65 ≤ c.val ∧ c.val ≤ 90) ∧ ¬ (48 ≤ c.val ∧ c.val ≤ 57)) → decide (0 ≤ firstIdx ⟨#[33, 35, 36, 37, 38, 39, 42, 43, 45, 46, 94, 95, 96, 124, 126]⟩ ((c.val : Int)).toNat.toUInt8) = tokN (c.val : Int) := by
  decide +kernel
theorem tok_mark (c : Int) (h0 : 0 ≤ c) (h1 : c ≤ 255) (a : ¬ (97 ≤ c ∧ c ≤ 122)) (b : ¬ (65 ≤ c ∧ c ≤ 90)) (d : ¬ (48 ≤ c ∧ c ≤ 57)) : decide (0 ≤ firstIdx ⟨#[33, 35, 36, 37, 38, 39, 42, 43, 45, 46, 94, 95, 96, 124, 126]⟩ c.toNat.toUInt8) = tokN c := by
  have := tok_table ⟨c.toNat, by omega⟩ ⟨by simp only; omega, by simp only; omega, by simp only; omega⟩
  simp only at this
  rw [show ((c.toNat : Nat) : Int) = c by omega] at this
  exact this
theorem isTokenByte_any (c : Int) (w : World) (h0 : 0 ≤ c) (h1 : c ≤ 255) :
    Calls Tryz.prog 50 #[.int .u8 c] w fun e w' => e = .returned (.bool (tokN c)) ∧ w = w' := by
  by_cases a : (97 ≤ c ∧ c ≤ 122)
  · have e : tokN c = true := by unfold tokN; simp [a]
    rw [e]; clear e
    obtain ⟨a1, a2⟩ := a
    go_enter Tryz.func50, Tryz.ntmps50
    go_wp2
    all_goals go_ret
    all_goals exact ⟨rfl, rfl⟩
  by_cases b : (65 ≤ c ∧ c ≤ 90)
  · have e : tokN c = true := by unfold tokN; simp [b]
    rw [e]; clear e a
    obtain ⟨a1, a2⟩ := b
    have a3 : ¬ 97 ≤ c := by omega
    go_enter Tryz.func50, Tryz.ntmps50
    go_wp2
    all_goals go_ret
    all_goals exact ⟨rfl, rfl⟩
  by_cases d : (48 ≤ c ∧ c ≤ 57)
  · have e : tokN c = true := by unfold tokN; simp [d]
    rw [e]; clear e a b
    obtain ⟨a1, a2⟩ := d
    have a3 : ¬ 97 ≤ c := by omega
    have a4 : ¬ 65 ≤ c := by omega
    go_enter Tryz.func50, Tryz.ntmps50
    go_wp2
    all_goals go_ret
    all_goals exact ⟨rfl, rfl⟩
  have m := tok_mark c h0 h1 a b d
  have r := indexByte_any ⟨#[33, 35, 36, 37, 38, 39, 42, 43, 45, 46, 94, 95, 96, 124, 126]⟩ c w
  generalize firstIdx ⟨#[33, 35, 36, 37, 38, 39, 42, 43, 45, 46, 94, 95, 96, 124, 126]⟩ c.toNat.toUInt8 = z at *
  rw [← m]; clear m
  have hc : c < 48 ∨ (57 < c ∧ c < 65) ∨ (90 < c ∧ c < 97) ∨ 122 < c := by omega
  clear a b d
  rcases hc with hc | hc | hc | hc
  all_goals
    (try obtain ⟨hc, hc2⟩ := hc)
    go_enter Tryz.func50, Tryz.ntmps50
    go_wp2_with fail
    refine r.mono ?_
    rintro e w' ⟨rfl, rfl⟩
    clear r
    go_wp2
    all_goals go_ret
    all_goals exact ⟨rfl, rfl⟩
theorem isTextByte_any (c : Int) (w : World) (h0 : 0 ≤ c) (h1 : c ≤ 255) :
    Calls Tryz.prog 69 #[.int .u8 c] w fun e w' => e = .returned (.bool (txtN c)) ∧ w = w' := by
  by_cases a : c = 9
  · subst a
    go_enter Tryz.func69, Tryz.ntmps69
    go_wp2
    all_goals go_ret
    all_goals exact ⟨rfl, rfl⟩
  by_cases b : c < 32
  · have e : txtN c = false := by unfold txtN; simp [a]; omega
    have g : (c == 9) = false := beq_eq_false_iff_ne.2 a
    rw [e]; clear e a
    go_enter Tryz.func69, Tryz.ntmps69
    go_wp2
    all_goals go_ret
    all_goals exact ⟨rfl, rfl⟩
  have g : (c == 9) = false := beq_eq_false_iff_ne.2 a
  clear a
  by_cases d : c = 127
  · subst d
    go_enter Tryz.func69, Tryz.ntmps69
    go_wp2
    all_goals go_ret
    all_goals exact ⟨rfl, rfl⟩
  · have e : txtN c = true := by unfold txtN; simp [d]; omega
    have g2 : (c == 127) = false := beq_eq_false_iff_ne.2 d
    rw [e]; clear e d
    go_enter Tryz.func69, Tryz.ntmps69
    go_wp2
    all_goals go_ret
    all_goals exact ⟨rfl, rfl⟩
theorem smallByte_any (c : Int) (w : World) (h0 : 0 ≤ c) (h1 : c ≤ 255) :
    Calls Tryz.prog 45 #[.int .u8 c] w fun e w' => e = .returned (.int .u8 (lowN c)) ∧ w = w' := by
  by_cases a : (65 ≤ c ∧ c ≤ 90)
  · have e : lowN c = c - 65 + 97 := by unfold lowN; rw [if_pos a]; omega
    rw [e]; clear e
    obtain ⟨a1, a2⟩ := a
    go_enter Tryz.func45, Tryz.ntmps45
    go_wp2
    all_goals go_ret
    all_goals exact ⟨rfl, rfl⟩
  · have e : lowN c = c := by unfold lowN; rw [if_neg a]
    rw [e]; clear e
    have hc : c < 65 ∨ 90 < c := by omega
    clear a
    rcases hc with hc | hc
    all_goals
      go_enter Tryz.func45, Tryz.ntmps45
      go_wp2
      all_goals go_ret
      all_goals exact ⟨rfl, rfl⟩
end Go.Proofs.YtdldoklkenhopaaGreatDoor.Fi
end

section
namespace Go.Proofs.YtdldoklkenhopaaGreatDoor.Fi
open Go.RowKit Go.PlainAid
open Hx
set_option linter.unusedVariables false
set_option maxRecDepth 20000
set_option linter.unusedSimpArgs false

/-! ### all bytes of a text -/
def allN (p : Int → Bool) (l : List UInt8) : Bool := l.all fun c => p (c.toNat : Int)
def AllTo (p : Int → Bool) (s : ByteArray) (k : Nat) : Prop := allN p ((ls s).take k) = true
theorem AllTo.zero (p : Int → Bool) (s : ByteArray) : AllTo p s 0 := by unfold AllTo; simp [allN]
theorem AllTo.succ {p : Int → Bool} {s : ByteArray} {k : Nat} (h : AllTo p s k) (hk : k < s.size) (hp : p (bt s k) = true) : AllTo p s (k + 1) := by
  obtain ⟨c, _, e, _, ht, _⟩ := get_ls hk
  unfold AllTo allN at h ⊢
  rw [ht, List.all_append, h]
  rw [e] at hp
  simp [hp]
theorem AllTo.whole {p : Int → Bool} {s : ByteArray} {k : Nat} (h : AllTo p s k) (hk : s.size ≤ k) : allN p (ls s) = true := by
  unfold AllTo at h
  rwa [List.take_of_length_le (by rw [ls_len]; exact hk)] at h
theorem all_not {p : Int → Bool} {s : ByteArray} {k : Nat} (hk : k < s.size) (hp : p (bt s k) = false) : allN p (ls s) = false := by
  obtain ⟨c, _, e, hl, _, _⟩ := get_ls hk
  rw [e] at hp
  rw [hl, allN, List.all_append, List.all_cons, hp]
  simp
theorem tok_is (l : List UInt8) : allN tokN l = l.all tokB := rfl
theorem txt_is (l : List UInt8) : allN txtN l = isTxt l := rfl
theorem isTok_ne {s : ByteArray} (h : 0 < s.size) : isTok (ls s) = allN tokN (ls s) := by
  unfold isTok
  have : (ls s).isEmpty = false := by
    cases hq : ls s with
    | nil => exact absurd hq (ls_ne h)
    | cons a b => rfl
  rw [this, tok_is]; rfl
theorem isTok_nil {s : ByteArray} (h : s.size = 0) : isTok (ls s) = false := by rw [ls_empty h]; rfl

theorem bel_draws {N : Nat} {w w2 : World} (n : Nat) (h : Below N w w2) : Below N w (w2.drewN n) := h.trans ⟨rfl, rfl, rfl, Nat.le_refl _, fun _ _ => rfl⟩
theorem flipC {f : FuncId} {args : Array Value} {v : Value} {w : World} (h : Calls Tryz.prog f args w fun e w' => e = .returned v ∧ w = w') : Calls Tryz.prog f args w fun e w' => e = .returned v ∧ w' = w :=
  h.mono fun _ _ x => ⟨x.1, x.2.symm⟩
theorem enters_of {f : FuncId} {fn : Func} {c : Code} (hf : Tryz.prog.funcs[f]? = some fn) (hname : (fn.name == "runtime.NumGoroutine") = false) (hb : fn.body = some c) (v : Value) (w : World) : (callFunc f #[v]).run Tryz.prog w = .ok (.enter f #[v]) w := by
  have h1 : fn.name ≠ "runtime.NumGoroutine" := by simpa using hname
  simp [callFunc, hf, h1, hb, mark]
theorem consists_any (s : ByteArray) (f : Nat) (p : Int → Bool) (w : World) (hs : s.size ≤ 4611686018427387904)
    (he : ∀ (v : Value) (w : World), (callFunc f #[v]).run Tryz.prog w = .ok (.enter f #[v]) w)
    (hf : ∀ (c : Int) (w : World), 0 ≤ c → c ≤ 255 → Calls Tryz.prog f #[.int .u8 c] w fun e w' => e = .returned (.bool (p c)) ∧ w = w') :
    Calls Tryz.prog 49 #[.string s, .func (.func f) #[] #[]] w fun e w' => e = .returned (.bool (allN p (ls s))) ∧ w = w' := by
  have hb := get_bt s
  have HF := Lib.hid hf
  clear hf
  go_enter Tryz.func49, Tryz.ntmps49
  go_wp2
  go_loop [8] (fun i => ∃ k : Nat, k ≤ s.size ∧ i = .int .i64 k ∧ AllTo p s k) (fun i => s.size - (intOf i).toNat)
  case atStart => exact ⟨0, Nat.zero_le _, rfl, AllTo.zero p s⟩
  case round =>
    obtain ⟨k, hk, rfl, hd⟩ := hrel
    have b0 := bt_nonneg s k
    have b1 := bt_le s k
    by_cases hlt : k < s.size
    · have l1 : (k : Int) < (s.size : Int) := by omega
      cases hp : p (bt s k) with
      | true =>
        have HP := Lib.hid hp
        go_wp2_with fail
        refine (HF.out _ _ b0 b1).mono ?_
        rintro e w' ⟨rfl, rfl⟩
        rw [HP.out]
        clear hp
        go_wp2
        go_round
        case rel => exact ⟨k + 1, by omega, by go_num, hd.succ hlt HP.out⟩
        case measure => simp [intOf]; omega
      | false =>
        have HP := Lib.hid hp
        have E := Lib.hid (all_not hlt hp)
        clear hp
        go_wp2_with fail
        refine (HF.out _ _ b0 b1).mono ?_
        rintro e w' ⟨rfl, rfl⟩
        rw [HP.out]
        go_wp2
        go_ret
        exact ⟨by rw [E.out]; rfl, rfl⟩
    · have E := Lib.hid (hd.whole (by omega))
      have l1 : ¬ (k : Int) < (s.size : Int) := by omega
      go_wp2
      go_ret
      exact ⟨by rw [E.out]; rfl, rfl⟩
theorem tokens_any (s : ByteArray) (w : World) (hs : s.size ≤ 4611686018427387904) :
    Calls Tryz.prog 49 #[.string s, .func (.func 50) #[] #[]] w fun e w' => e = .returned (.bool (allN tokN (ls s))) ∧ w = w' :=
  consists_any s _ tokN w hs (fun v w => enters_of Tryz.func50 (by kernel_rfl) rfl v w) (fun c w h0 h1 => isTokenByte_any c w h0 h1)
theorem texts_any (s : ByteArray) (w : World) (hs : s.size ≤ 4611686018427387904) :
    Calls Tryz.prog 49 #[.string s, .func (.func 69) #[] #[]] w fun e w' => e = .returned (.bool (isTxt (ls s))) ∧ w = w' :=
  consists_any s _ txtN w hs (fun v w => enters_of Tryz.func69 (by kernel_rfl) rfl v w) (fun c w h0 h1 => isTextByte_any c w h0 h1)
theorem isToken_any (s : ByteArray) (w : World) (hs : s.size ≤ 4611686018427387904) :
    Calls Tryz.prog 27 #[.string s] w fun e w' => e = .returned (.bool (isTok (ls s))) ∧ w = w' := by
  by_cases h : s.size = 0
  · rw [isTok_nil h]
    have h1 := toList_nil s h
    clear h
    go_enter Tryz.func27, Tryz.ntmps27
    go_wp2
    all_goals go_ret
    all_goals exact ⟨rfl, rfl⟩
  · have h1 := toList_ne s (by omega)
    have h2 := toList_ne' s (by omega)
    rw [isTok_ne (by omega)]
    have r := tokens_any s w hs
    generalize allN tokN (ls s) = b at *
    clear h
    go_enter Tryz.func27, Tryz.ntmps27
    go_wp2_with fail
    refine r.mono ?_
    rintro e w' ⟨rfl, rfl⟩
    clear r
    go_wp2
    all_goals go_ret
    all_goals exact ⟨rfl, rfl⟩

/-! ### two names -/
def SameTo (a b : ByteArray) (k : Nat) : Prop := low ((ls a).take k) = low ((ls b).take k)
theorem SameTo.zero (a b : ByteArray) : SameTo a b 0 := by unfold SameTo; simp
theorem lowB_eq (c d : UInt8) : (lowN (c.toNat : Int) = lowN (d.toNat : Int)) ↔ lowB c = lowB d := by
  rw [← lowB_nat, ← lowB_nat, byte_eq]
theorem SameTo.succ {a b : ByteArray} {k : Nat} (h : SameTo a b k) (ha : k < a.size) (hb : k < b.size) (e : lowN (bt a k) = lowN (bt b k)) : SameTo a b (k + 1) := by
  obtain ⟨c, _, ec, _, tc, _⟩ := get_ls ha
  obtain ⟨d, _, ed, _, td, _⟩ := get_ls hb
  unfold SameTo at h ⊢
  rw [ec, ed, lowB_eq] at e
  rw [tc, td, low, List.map_append, ← low, h]
  simp [low, e]
theorem SameTo.whole {a b : ByteArray} {k : Nat} (h : SameTo a b k) (ha : a.size ≤ k) (hb : b.size ≤ k) : sameL (ls a) (ls b) = true := by
  unfold SameTo at h
  rw [List.take_of_length_le (by rw [ls_len]; exact ha), List.take_of_length_le (by rw [ls_len]; exact hb)] at h
  exact (sameL_iff _ _).2 h
theorem same_len {a b : ByteArray} (h : a.size ≠ b.size) : sameL (ls a) (ls b) = false := by
  rw [Bool.eq_false_iff]
  intro e
  have := congrArg List.length ((sameL_iff _ _).1 e)
  simp [low, ls_len] at this
  exact h this
theorem same_not {a b : ByteArray} {k : Nat} (ha : k < a.size) (hb : k < b.size) (e : lowN (bt a k) ≠ lowN (bt b k)) : sameL (ls a) (ls b) = false := by
  rw [Bool.eq_false_iff]
  intro e2
  have e3 := (sameL_iff _ _).1 e2
  obtain ⟨c, gc, ec, _, _, _⟩ := get_ls ha
  obtain ⟨d, gd, ed, _, _, _⟩ := get_ls hb
  have := congrArg (fun l => l[k]?) e3
  simp [low, gc, gd] at this
  rw [ec, ed] at e
  exact e ((lowB_eq c d).2 this)
theorem lowN_bd (c : Int) (h0 : 0 ≤ c) (h1 : c ≤ 255) : 0 ≤ lowN c ∧ lowN c ≤ 255 := by unfold lowN; split <;> omega
set_option maxHeartbeats 400000 in
theorem same_any (a b : ByteArray) (w : World) (ha : a.size ≤ 4611686018427387904) (hb : b.size ≤ 4611686018427387904) :
    Calls Tryz.prog 23 #[.string a, .string b] w fun e w' => e = .returned (.bool (sameL (ls a) (ls b))) ∧ Below w.heap.size w w' := by
  by_cases hl : a.size = b.size
  · have ga := get_bt a
    have gb := get_bt b
    have g : ((a.size : Int) != (b.size : Int)) = false := by rw [hl]; simp
    have HL := Lib.hid hl
    clear hl
    go_enter Tryz.func23, Tryz.ntmps23
    go_wp2
    go_loopw [13] (fun i wr => ∃ k : Nat, k ≤ a.size ∧ i = .int .i64 k ∧ SameTo a b k ∧ Below w.heap.size w wr) (fun i _ => a.size - (intOf i).toNat)
    case atStart => exact ⟨0, Nat.zero_le _, rfl, SameTo.zero a b, Below.refl _ _⟩
    case round =>
      obtain ⟨k, hk, rfl, hd, hbel⟩ := hrel
      clear g
      have a0 := bt_nonneg a k
      have a1 := bt_le a k
      have b0 := bt_nonneg b k
      have b1 := bt_le b k
      have hz := HL.out
      by_cases hlt : k < a.size
      · have hlt2 : k < b.size := by omega
        clear hz
        have l1 : (k : Int) < (a.size : Int) := by omega
        have l2 : (k : Int) < (b.size : Int) := by omega
        have lk : (0 : Int) ≤ (k : Int) := Int.natCast_nonneg _
        by_cases hp : lowN (bt a k) = lowN (bt b k)
        · have HP := Lib.hid (hd.succ hlt hlt2 hp)
          have g : (lowN (bt a k) != lowN (bt b k)) = false := by rw [hp]; simp
          clear hp
          go_wp2
          go_quiet ((go_at_call 45; first | with_reducible exact Calls.quiet_of_same (flipC (smallByte_any (bt a k) _ a0 a1)) | with_reducible exact Calls.quiet_of_same (flipC (smallByte_any (bt b k) _ b0 b1))))
          have hb2 := bel_draws nq hbel
          clear hbel
          generalize wr.drewN nq = w2 at hb2 ⊢
          go_wp2
          go_roundw
          case rel => exact ⟨k + 1, by omega, by go_num, HP.out, hb2⟩
          case measure => simp [intOf]; omega
        · have E := Lib.hid (same_not hlt hlt2 hp)
          have g : (lowN (bt a k) != lowN (bt b k)) = true := by rw [bne_iff_ne]; exact hp
          clear hp
          go_wp2
          go_quiet ((go_at_call 45; first | with_reducible exact Calls.quiet_of_same (flipC (smallByte_any (bt a k) _ a0 a1)) | with_reducible exact Calls.quiet_of_same (flipC (smallByte_any (bt b k) _ b0 b1))))
          have hb2 := bel_draws nq hbel
          clear hbel
          generalize wr.drewN nq = w2 at hb2 ⊢
          go_wp2
          go_ret
          exact ⟨by rw [E.out]; rfl, hb2⟩
      · have E := Lib.hid (hd.whole (by omega) (by omega))
        have l1 : ¬ (k : Int) < (a.size : Int) := by omega
        clear hz
        go_wp2
        go_ret
        exact ⟨by rw [E.out]; rfl, hbel⟩
  · have g : ((a.size : Int) != (b.size : Int)) = true := by rw [bne_iff_ne]; omega
    rw [same_len hl]
    go_enter Tryz.func23, Tryz.ntmps23
    go_wp2
    all_goals go_ret
    all_goals exact ⟨rfl, Below.refl _ _⟩
end Go.Proofs.YtdldoklkenhopaaGreatDoor.Fi
end

section
namespace Go.Proofs.YtdldoklkenhopaaGreatDoor.Hx
open Go.RowKit Go.PlainAid
set_option linter.unusedVariables false
set_option maxRecDepth 20000

theorem sv_bd (c : Int) : 0 ≤ sv c ∧ sv c ≤ 15 := by unfold sv; split <;> (try split) <;> omega
theorem av_bd (c : Int) : 0 ≤ av c ∧ av c ≤ 15 := by
  have := sv_bd c
  unfold av; split <;> omega

/-- the first k bytes are digits of base 16 -/
def AllHex (s : ByteArray) (k : Nat) : Prop := ∀ j, j < k → aok (bt s j) = true
theorem AllHex.zero (s : ByteArray) : AllHex s 0 := fun _ h => absurd h (Nat.not_lt_zero _)
theorem AllHex.succ {s : ByteArray} {k : Nat} (h : AllHex s k) (h0 : aok (bt s k) = true) : AllHex s (k + 1) := fun j hj => by
  by_cases e : j = k
  · subst e; exact h0
  · exact h j (by omega)
/-- the number of the first k digits of base 16 -/
def hexTo (s : ByteArray) : Nat → Int
  | 0 => 0
  | k + 1 => hexTo s k * 16 + av (bt s k)
theorem hexTo_bd (s : ByteArray) : ∀ k, 0 ≤ hexTo s k ∧ hexTo s k < 16 ^ k
  | 0 => ⟨Int.le_refl _, show (0 : Int) < 16 ^ 0 by decide⟩
  | k + 1 => by
    have ih := hexTo_bd s k
    have hd := av_bd (bt s k)
    have e : (16 : Int) ^ (k + 1) = 16 ^ k * 16 := Int.pow_succ 16 k
    simp only [hexTo]
    omega
theorem hexTo_fits (s : ByteArray) (k : Nat) (hk : k ≤ 16) : 0 ≤ hexTo s k ∧ hexTo s k ≤ 18446744073709551615 := by
  have hb := hexTo_bd s k
  have hp : (16 : Nat) ^ k ≤ 16 ^ 16 := Nat.pow_le_pow_right (by decide) hk
  have hp' : (16 : Int) ^ k ≤ 16 ^ 16 := by exact_mod_cast hp
  have e : (16 : Int) ^ 16 = 18446744073709551616 := by decide
  omega
theorem hexTo_small (s : ByteArray) (k : Nat) (hk : k < 16) : 0 ≤ hexTo s k ∧ hexTo s k ≤ 1152921504606846975 := by
  have hb := hexTo_bd s k
  have hp : (16 : Nat) ^ k ≤ 16 ^ 15 := Nat.pow_le_pow_right (by decide) (by omega)
  have hp' : (16 : Int) ^ k ≤ 16 ^ 15 := by exact_mod_cast hp
  have e : (16 : Int) ^ 15 = 1152921504606846976 := by decide
  omega

theorem wraps_u64 (n : Int) (h₀ : 0 ≤ n) (h₁ : n < 2 ^ 64) : IntKind.u64.wrap n = n := IntWalk.u64_in n ⟨h₀, by omega⟩
theorem or16 (x d : Int) (h0 : 0 ≤ x) (h1 : x ≤ 1152921504606846975) (h2 : 0 ≤ d) (h3 : d ≤ 15) : bits .or .u64 (x * 16) d = x * 16 + d :=
  bits_join .u64 64 (by decide) wraps_u64 4 (x * 16) d (by omega) (by omega) (by omega) h2 (by omega) (by omega)

/-- a text is 1 to 16 digits of base 16 -/
def HexForm (s : ByteArray) : Prop := 0 < s.size ∧ s.size ≤ 16 ∧ AllHex s s.size

theorem unhexnum_size (s : ByteArray) (m : Int) (w : World) (h : s.size = 0 ∨ 16 < s.size) (hs : s.size ≤ 4611686018427387904) :
    Calls Tryz.prog 93 #[.string s, .int .i64 m] w fun e w' => e = .returned (.tuple #[.int .i64 0, .int .i64 3]) ∧ w = w' := by
  rcases h with h | h
  · have g : ((s.size : Int) == 0) = true := beq_iff_eq.2 (by omega)
    go_enter Tryz.func93, Tryz.ntmps93
    go_wp2
    go_ret2
    exact ⟨rfl, rfl⟩
  · have g : ((s.size : Int) == 0) = false := beq_eq_false_iff_ne.2 (by omega)
    go_enter Tryz.func93, Tryz.ntmps93
    go_wp2
    go_ret2
    exact ⟨rfl, rfl⟩

def UnhexnumPost (s : ByteArray) (m : Int) (w : World) (e : Ending) (w' : World) : Prop :=
  ((HexForm s ∧ e = .returned (.tuple #[.int .i64 (amN (hexTo s s.size) m), .int .i64 (amE (hexTo s s.size) m)])) ∨ (¬ HexForm s ∧ e = .returned (.tuple #[.int .i64 0, .int .i64 3]))) ∧ w = w'

theorem unhexnum_loop (s : ByteArray) (m : Int) (w : World) (h : 0 < s.size) (h16 : s.size ≤ 16) (h2 : -9223372036854775808 ≤ m) (h3 : m ≤ 9223372036854775807) :
    Calls Tryz.prog 93 #[.string s, .int .i64 m] w (UnhexnumPost s m w) := by
  have hb := get_bt s
  have g : ((s.size : Int) == 0) = false := beq_eq_false_iff_ne.2 (by omega)
  go_enter Tryz.func93, Tryz.ntmps93
  go_wp2
  go_loop [6, 7] (fun n i => ∃ k : Nat, k ≤ s.size ∧ i = .int .i64 k ∧ AllHex s k ∧ n = .int .u64 (hexTo s k)) (fun _ i => s.size - (intOf i).toNat)
  case atStart => exact ⟨0, Nat.zero_le _, rfl, AllHex.zero s, rfl⟩
  case round =>
    obtain ⟨k, hk, rfl, ha, rfl⟩ := hrel
    have b0 := bt_nonneg s k
    have b1 := bt_le s k
    by_cases hlt : k < s.size
    · obtain ⟨d0, d1⟩ := hexTo_small s k (by omega)
      obtain ⟨v0, v1⟩ := av_bd (bt s k)
      cases c : aok (bt s k) with
      | true =>
        have C := Lib.hid c
        go_wp2_with fail
        refine (any_any _ _ b0 b1).mono ?_
        rintro e w' ⟨rfl, rfl⟩
        go_wp2
        go_round
        case rel => exact ⟨k + 1, by omega, by go_num, ha.succ C.out, by rw [or16 _ _ d0 d1 v0 v1]; rfl⟩
        case measure => simp [intOf]; omega
      | false =>
        have C := Lib.hid c
        go_wp2_with fail
        refine (any_any _ _ b0 b1).mono ?_
        rintro e w' ⟨rfl, rfl⟩
        go_wp2
        go_ret2
        exact ⟨.inr ⟨fun h => (by have := h.2.2 k hlt; rw [C.out] at this; cases this), rfl⟩, rfl⟩
    · have e : k = s.size := by omega
      obtain ⟨d0, d1⟩ := hexTo_fits s k (by omega)
      have E := Lib.hid e
      have hf : HexForm s := ⟨h, h16, e ▸ ha⟩
      clear e
      go_wp2_with fail
      refine (atMost_any _ _ _ (by omega) (by omega) h2 h3).mono ?_
      rintro e w' ⟨rfl, rfl⟩
      rw [E.out]
      go_wp2
      go_ret2
      exact ⟨.inl ⟨hf, rfl⟩, rfl⟩

theorem unhexnum_any (s : ByteArray) (m : Int) (w : World) (hs : s.size ≤ 4611686018427387904) (h2 : -9223372036854775808 ≤ m) (h3 : m ≤ 9223372036854775807) :
    Calls Tryz.prog 93 #[.string s, .int .i64 m] w (UnhexnumPost s m w) := by
  by_cases h : 0 < s.size ∧ s.size ≤ 16
  · exact unhexnum_loop s m w h.1 h.2 h2 h3
  · exact (unhexnum_size s m w (by omega) hs).mono fun e w' ⟨he, hw⟩ => ⟨.inr ⟨fun hf => h ⟨hf.1, hf.2.1⟩, he⟩, hw⟩
theorem unhexnum_yes (s : ByteArray) (m : Int) (w : World) (h : HexForm s) (h2 : -9223372036854775808 ≤ m) (h3 : m ≤ 9223372036854775807) :
    Calls Tryz.prog 93 #[.string s, .int .i64 m] w fun e w' => e = .returned (.tuple #[.int .i64 (amN (hexTo s s.size) m), .int .i64 (amE (hexTo s s.size) m)]) ∧ w = w' :=
  (unhexnum_any s m w (by have := h.2.1; omega) h2 h3).mono fun e w' ⟨he, hw⟩ => ⟨he.elim (fun x => x.2) (fun x => absurd h x.1), hw⟩
theorem unhexnum_no (s : ByteArray) (m : Int) (w : World) (hs : s.size ≤ 4611686018427387904) (h : ¬ HexForm s) (h2 : -9223372036854775808 ≤ m) (h3 : m ≤ 9223372036854775807) :
    Calls Tryz.prog 93 #[.string s, .int .i64 m] w fun e w' => e = .returned (.tuple #[.int .i64 0, .int .i64 3]) ∧ w = w' :=
  (unhexnum_any s m w hs h2 h3).mono fun e w' ⟨he, hw⟩ => ⟨he.elim (fun x => absurd x.1 h) (fun x => x.2), hw⟩
end Go.Proofs.YtdldoklkenhopaaGreatDoor.Hx
end

section
namespace Go.Proofs.YtdldoklkenhopaaGreatDoor.Hx
open Go.RowKit Go.PlainAid
set_option linter.unusedVariables false
set_option maxRecDepth 20000

theorem info5 : (Tryz.prog.info? 5).map (fun i => (i.zero, i.size, i.bytes)) = some (some (.int .u8 0), 1, 1) := by kernel_rfl

def bytesV (l : List UInt8) : List Value := l.map fun c => Value.int .u8 (c.toNat : Int)
theorem bytesV_len (l : List UInt8) : (bytesV l).length = l.length := by simp [bytesV]
theorem bytesV_append (a b : List UInt8) : bytesV (a ++ b) = bytesV a ++ bytesV b := by simp [bytesV]
theorem bytesV_get (l : List UInt8) (j : Nat) (h : j < l.length) : (bytesV l)[j]? = some (.int .u8 (l[j].toNat : Int)) := by simp [bytesV, h]
theorem bytesV_one (l : List UInt8) : ∀ u ∈ bytesV l, u.oneCell' = true := by
  intro u hu
  simp only [bytesV, List.mem_map] at hu
  obtain ⟨c, _, rfl⟩ := hu
  rfl

theorem conv_row {w : World} {base n : Nat} {v : Value} {l : List UInt8} (h : w.ownsRow base 5 1 v n (bytesV l)) :
    (convert 49 9 v).run Tryz.prog w = .ok (.string ⟨l.toArray⟩) w := by
  have hn : (bytesV l).length = n * 1 := h.1
  rw [bytesV_len, Nat.mul_one] at hn
  rcases h.2 with ⟨rfl, h0⟩ | ⟨g, cap, cur, rfl, hb, hg, hnc, hcm, hcs, htk⟩
  · have : l = [] := List.eq_nil_of_length_eq_zero (by omega)
    subst this
    rw [run_convert_bytes_string w 49 9 5 none 0 0 Tryz.underlying49 Tryz.underlying5 Tryz.underlying9]
    simp [Conv.bytesToString, Sem.run_pure]
    rfl
  · subst hn
    refine run_convert_bytes_back w 49 9 5 ⟨g, 0, none⟩ cap l Tryz.underlying49 Tryz.underlying5 Tryz.underlying9 fun j hj => ?_
    exact h.cells rfl j _ (bytesV_get l j hj)

theorem take_snoc (s : ByteArray) (k : Nat) (h : k < s.size) : s.data.toList.take (k + 1) = s.data.toList.take k ++ [s[k]] := by
  rw [List.take_succ_eq_append_getElem (by simpa using h)]; rfl
theorem take_all (s : ByteArray) (k : Nat) (h : s.size ≤ k) : s.data.toList.take k = s.data.toList := List.take_of_length_le (by simpa using h)
theorem get_len (s : ByteArray) : s.data.toList.length = s.size := by simp
theorem bt_get (s : ByteArray) (k : Nat) (h : k < s.size) : bt s k = (s[k].toNat : Int) := by unfold bt; rw [dif_pos h]

/-- a digit's byte -/
def hd (n : Nat) : UInt8 := if n < 10 then UInt8.ofNat (48 + n) else UInt8.ofNat (87 + n)
theorem hd_nat (n : Nat) (h : n < 16) : (hd n).toNat = if n < 10 then 48 + n else 87 + n := by
  have : ∀ m : Fin 16, (hd m.val).toNat = if m.val < 10 then 48 + m.val else 87 + m.val := by decide
  exact this ⟨n, h⟩
/-- the table of digits -/
def dg : ByteArray := ⟨#[48, 49, 50, 51, 52, 53, 54, 55, 56, 57, 97, 98, 99, 100, 101, 102]⟩
theorem bt_dg (n : Nat) (h : n < 16) : bt ⟨#[48, 49, 50, 51, 52, 53, 54, 55, 56, 57, 97, 98, 99, 100, 101, 102]⟩ n = ((hd n).toNat : Int) := by
  have : ∀ m : Fin 16, bt ⟨#[48, 49, 50, 51, 52, 53, 54, 55, 56, 57, 97, 98, 99, 100, 101, 102]⟩ m.val = ((hd m.val).toNat : Int) := by decide
  exact this ⟨n, h⟩

/-- Hex -/
def hexL : List UInt8 → List UInt8
  | [] => []
  | c :: l => hd (c.toNat / 16) :: hd (c.toNat % 16) :: hexL l
theorem hexL_append : ∀ a b : List UInt8, hexL (a ++ b) = hexL a ++ hexL b
  | [], b => rfl
  | c :: a, b => by simp [hexL, hexL_append a b]
theorem hexL_len : ∀ a : List UInt8, (hexL a).length = 2 * a.length
  | [] => rfl
  | c :: a => by simp [hexL, hexL_len a]; omega
end Go.Proofs.YtdldoklkenhopaaGreatDoor.Hx
end
