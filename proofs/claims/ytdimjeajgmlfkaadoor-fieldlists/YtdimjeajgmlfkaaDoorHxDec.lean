/-
  Contracts of hexa.isDecimal and hexa.Undec: what they answer for every text of at most 2^62 bytes.
-/
import Derived.Test.YtdimjeajgmlfkaaDoorHxLeaf
import Derived.PlainAid
namespace Go.Proofs.YtdimjeajgmlfkaaDoor.Hx
open Go.RowKit Go.PlainAid
set_option linter.unusedVariables false
set_option maxRecDepth 20000

/-- the first k bytes are decimal digits -/
def AllDig (s : ByteArray) (k : Nat) : Prop := ∀ j, j < k → 48 ≤ bt s j ∧ bt s j ≤ 57
theorem AllDig.zero (s : ByteArray) : AllDig s 0 := fun _ h => absurd h (Nat.not_lt_zero _)
theorem AllDig.succ {s : ByteArray} {k : Nat} (h : AllDig s k) (h0 : 48 ≤ bt s k) (h1 : bt s k ≤ 57) : AllDig s (k + 1) := fun j hj => by
  by_cases e : j = k
  · subst e; exact ⟨h0, h1⟩
  · exact h j (by omega)

/-- a text is a decimal number's: some digits, of more than one the first isn't 0 -/
def DecForm (s : ByteArray) : Prop := 0 < s.size ∧ (1 < s.size → bt s 0 ≠ 48) ∧ AllDig s s.size

theorem toList_nil (s : ByteArray) (h : s.size = 0) : s.toList = [] := by
  rw [ByteArray.toList_eq]; apply List.eq_nil_of_length_eq_zero; simpa using h
theorem toList_ne (s : ByteArray) (h : 0 < s.size) : s.toList.isEmpty = false := by
  rw [ByteArray.toList_eq]
  cases e : s.data.toList with
  | nil => have : s.data.toList.length = 0 := by rw [e]; rfl
           have h2 : s.size = s.data.toList.length := by simp
           omega
  | cons a b => rfl
theorem toList_ne' (s : ByteArray) (h : 0 < s.size) : ¬ s.toList = [] := by
  have := toList_ne s h
  intro e; rw [e] at this; cases this

theorem isDecimal_empty (s : ByteArray) (w : World) (h : s.size = 0) :
    Calls Tryd.prog 73 #[.string s] w fun e w' => e = .returned (.bool false) ∧ w = w' := by
  have h1 := toList_nil s h
  clear h
  go_enter Tryd.func73, Tryd.ntmps73
  go_wp2
  go_ret
  exact ⟨rfl, rfl⟩

theorem isDecimal_zero (s : ByteArray) (w : World) (h : 1 < s.size) (h48 : bt s 0 = 48) :
    Calls Tryd.prog 73 #[.string s] w fun e w' => e = .returned (.bool false) ∧ w = w' := by
  have h1 := toList_ne s (by omega)
  have h2 := toList_ne' s (by omega)
  have hb := get_bt s
  have h3 : (bt s 0 == 48) = true := by rw [h48]; rfl
  clear h48
  go_enter Tryd.func73, Tryd.ntmps73
  go_wp2
  go_ret
  exact ⟨rfl, rfl⟩

def IsDecPost (s : ByteArray) (w : World) (e : Ending) (w' : World) : Prop := ∃ b : Bool, e = .returned (.bool b) ∧ (b = true ↔ DecForm s) ∧ w = w'

theorem isDecimal_loop (s : ByteArray) (w : World) (hs : s.size ≤ 4611686018427387904) (h : 0 < s.size) (hc : s.size ≤ 1 ∨ (1 < s.size ∧ (bt s 0 == 48) = false)) :
    Calls Tryd.prog 73 #[.string s] w (IsDecPost s w) := by
  have h1 := toList_ne s h
  have h2 := toList_ne' s h
  have hb := get_bt s
  have hz : 1 < s.size → bt s 0 ≠ 48 := by
    rcases hc with hc | ⟨_, hc⟩
    · omega
    · intro _; simpa using hc
  have Hz := Lib.hid hz
  clear hz
  rcases hc with hc | ⟨hc, hc2⟩
  all_goals
    go_enter Tryd.func73, Tryd.ntmps73
    go_wp2
    go_loop [3] (fun i => ∃ k : Nat, k ≤ s.size ∧ i = .int .i64 k ∧ AllDig s k) (fun i => s.size - (intOf i).toNat)
    case atStart => exact ⟨0, Nat.zero_le _, rfl, AllDig.zero s⟩
    case round =>
      obtain ⟨k, hk, rfl, hd⟩ := hrel
      have b0 := bt_nonneg s k
      have b1 := bt_le s k
      by_cases hlt : k < s.size
      · by_cases c1 : bt s k < 48
        · go_wp2
          go_ret
          exact ⟨false, rfl, ⟨(fun h => by cases h), fun h => by have := (h.2.2 k hlt).1; omega⟩, rfl⟩
        · by_cases c2 : 57 < bt s k
          · go_wp2
            go_ret
            exact ⟨false, rfl, ⟨(fun h => by cases h), fun h => by have := (h.2.2 k hlt).2; omega⟩, rfl⟩
          · go_wp2
            go_round
            case rel => exact ⟨k + 1, by omega, by go_num, hd.succ (by omega) (by omega)⟩
            case measure => simp [intOf]; omega
      · have e : k = s.size := by omega
        have hf : DecForm s := ⟨h, Hz.out, e ▸ hd⟩
        clear e
        go_wp2
        go_ret
        exact ⟨true, rfl, ⟨fun _ => hf, fun _ => rfl⟩, rfl⟩

theorem isDecimal_any (s : ByteArray) (w : World) (hs : s.size ≤ 4611686018427387904) :
    Calls Tryd.prog 73 #[.string s] w (IsDecPost s w) := by
  by_cases h : s.size = 0
  · exact (isDecimal_empty s w h).mono fun e w' ⟨he, hw⟩ => ⟨false, he, ⟨(fun h => by cases h), fun h' => by have := h'.1; omega⟩, hw⟩
  · by_cases h1 : 1 < s.size
    · by_cases h2 : bt s 0 = 48
      · exact (isDecimal_zero s w h1 h2).mono fun e w' ⟨he, hw⟩ => ⟨false, he, ⟨(fun h => by cases h), fun h' => absurd h2 (h'.2.1 h1)⟩, hw⟩
      · exact isDecimal_loop s w hs (by omega) (.inr ⟨h1, by simpa using h2⟩)
    · exact isDecimal_loop s w hs (by omega) (.inl (by omega))
theorem isDecimal_yes (s : ByteArray) (w : World) (hs : s.size ≤ 4611686018427387904) (h : DecForm s) :
    Calls Tryd.prog 73 #[.string s] w fun e w' => e = .returned (.bool true) ∧ w = w' :=
  (isDecimal_any s w hs).mono fun e w' ⟨b, he, hb, hw⟩ => by rw [hb.2 h] at he; exact ⟨he, hw⟩
theorem isDecimal_no (s : ByteArray) (w : World) (hs : s.size ≤ 4611686018427387904) (h : ¬ DecForm s) :
    Calls Tryd.prog 73 #[.string s] w fun e w' => e = .returned (.bool false) ∧ w = w' :=
  (isDecimal_any s w hs).mono fun e w' ⟨b, he, hb, hw⟩ => by
    cases b with
    | true => exact absurd (hb.1 rfl) h
    | false => exact ⟨he, hw⟩

/-- the number of the first k decimal digits -/
def decTo (s : ByteArray) : Nat → Int
  | 0 => 0
  | k + 1 => decTo s k * 10 + (bt s k - 48)
theorem decTo_bd {s : ByteArray} {n : Nat} (h : AllDig s n) : ∀ k, k ≤ n → 0 ≤ decTo s k ∧ decTo s k < 10 ^ k
  | 0, _ => ⟨Int.le_refl _, show (0 : Int) < 10 ^ 0 by decide⟩
  | k + 1, hk => by
    have ih := decTo_bd h k (by omega)
    have hd := h k (by omega)
    have e : (10 : Int) ^ (k + 1) = 10 ^ k * 10 := Int.pow_succ 10 k
    simp only [decTo]
    omega
/-- of at most 19 digits: it fits -/
theorem decTo_fits {s : ByteArray} {n : Nat} (h : AllDig s n) (hn : n ≤ 19) (k : Nat) (hk : k ≤ n) : 0 ≤ decTo s k ∧ decTo s k ≤ 10000000000000000000 := by
  have hb := decTo_bd h k hk
  have hp : (10 : Nat) ^ k ≤ 10 ^ 19 := Nat.pow_le_pow_right (by decide) (by omega)
  have hp' : (10 : Int) ^ k ≤ 10 ^ 19 := by exact_mod_cast hp
  have e : (10 : Int) ^ 19 = 10000000000000000000 := by decide
  omega
theorem decTo_small {s : ByteArray} {n : Nat} (h : AllDig s n) (hn : n ≤ 19) (k : Nat) (hk : k < n) : 0 ≤ decTo s k ∧ decTo s k ≤ 1000000000000000000 := by
  have hb := decTo_bd h k (by omega)
  have hp : (10 : Nat) ^ k ≤ 10 ^ 18 := Nat.pow_le_pow_right (by decide) (by omega)
  have hp' : (10 : Int) ^ k ≤ 10 ^ 18 := by exact_mod_cast hp
  have e : (10 : Int) ^ 18 = 1000000000000000000 := by decide
  omega

theorem undec_form (s : ByteArray) (m : Int) (w : World) (hs : s.size ≤ 4611686018427387904) (h : ¬ DecForm s) :
    Calls Tryd.prog 58 #[.string s, .int .i64 m] w fun e w' => e = .returned (.tuple #[.int .i64 0, .int .i64 3]) ∧ w = w' := by
  have H := Lib.hid h
  clear h
  go_enter Tryd.func58, Tryd.ntmps58
  go_wp2_with fail
  refine (isDecimal_no s _ hs H.out).mono ?_
  rintro e w' ⟨rfl, rfl⟩
  go_wp2
  go_ret2
  exact ⟨rfl, rfl⟩

theorem undec_long (s : ByteArray) (m : Int) (w : World) (hs : s.size ≤ 4611686018427387904) (h : DecForm s) (hl : 19 < s.size) :
    Calls Tryd.prog 58 #[.string s, .int .i64 m] w fun e w' => e = .returned (.tuple #[.int .i64 0, .int .i64 14]) ∧ w = w' := by
  have H := Lib.hid h
  clear h
  go_enter Tryd.func58, Tryd.ntmps58
  go_wp2_with fail
  refine (isDecimal_yes s _ hs H.out).mono ?_
  rintro e w' ⟨rfl, rfl⟩
  go_wp2
  go_ret2
  exact ⟨rfl, rfl⟩

theorem undec_short (s : ByteArray) (m : Int) (w : World) (h : DecForm s) (hl : s.size ≤ 19) (h2 : -9223372036854775808 ≤ m) (h3 : m ≤ 9223372036854775807) :
    Calls Tryd.prog 58 #[.string s, .int .i64 m] w fun e w' => e = .returned (.tuple #[.int .i64 (amN (decTo s s.size) m), .int .i64 (amE (decTo s s.size) m)]) ∧ w = w' := by
  have H := Lib.hid h
  clear h
  have hb := get_bt s
  go_enter Tryd.func58, Tryd.ntmps58
  go_wp2_with fail
  refine (isDecimal_yes s _ (by omega) H.out).mono ?_
  rintro e w' ⟨rfl, rfl⟩
  go_wp2
  go_loop [6, 7] (fun n i => ∃ k : Nat, k ≤ s.size ∧ i = .int .i64 k ∧ n = .int .u64 (decTo s k)) (fun _ i => s.size - (intOf i).toNat)
  case atStart => exact ⟨0, Nat.zero_le _, rfl, rfl⟩
  case round =>
    obtain ⟨k, hk, rfl, rfl⟩ := hrel
    by_cases hlt : k < s.size
    · have b := H.out.2.2 k hlt
      obtain ⟨b0, b1⟩ := b
      have d := decTo_small H.out.2.2 hl k hlt
      obtain ⟨d0, d1⟩ := d
      go_wp2
      go_round
      case rel => exact ⟨k + 1, by omega, by go_num, by simp only [decTo]⟩
      case measure => simp [intOf]; omega
    · have e : k = s.size := by omega
      have d := decTo_fits H.out.2.2 hl k hk
      obtain ⟨d0, d1⟩ := d
      have E := Lib.hid e
      clear e
      go_wp2_with fail
      refine (atMost_any _ _ _ (by omega) (by omega) h2 h3).mono ?_
      rintro e w' ⟨rfl, rfl⟩
      rw [E.out]
      go_wp2
      go_ret2
      exact ⟨rfl, rfl⟩
end Go.Proofs.YtdimjeajgmlfkaaDoor.Hx
