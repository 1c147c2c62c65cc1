/-
  Contracts of hexa.Unhexnum: what it answers for every text of at most 2^62 bytes.
-/
import Derived.Test.YtjdfninaccaagaaDoorHxDec
namespace Go.Proofs.YtjdfninaccaagaaDoor.Hx
open Go.RowKit Go.PlainAid
set_option linter.unusedVariables false
set_option maxRecDepth 20000

theorem sv_bd (c : Int) : 0 ≤ sv c ∧ sv c ≤ 15 := by unfold sv; split <;> (try split) <;> omega
theorem av_bd (c : Int) : 0 ≤ av c ∧ av c ≤ 15 := by
  have := sv_bd c
  unfold av; split <;> omega

/-- the first k bytes are digits of base 16 -/
def AllHex (s : ByteArray) (k : Nat) : Prop := ∀ j, j < k → aok (bt s j) = true
theorem AllHex.zero (s : ByteArray) : AllHex s 0 := fun _ h => absurd h (Nat.not_lt_zero _)
theorem AllHex.succ {s : ByteArray} {k : Nat} (h : AllHex s k) (h0 : aok (bt s k) = true) : AllHex s (k + 1) := fun j hj => by
  by_cases e : j = k
  · subst e; exact h0
  · exact h j (by omega)
/-- the number of the first k digits of base 16 -/
def hexTo (s : ByteArray) : Nat → Int
  | 0 => 0
  | k + 1 => hexTo s k * 16 + av (bt s k)
theorem hexTo_bd (s : ByteArray) : ∀ k, 0 ≤ hexTo s k ∧ hexTo s k < 16 ^ k
  | 0 => ⟨Int.le_refl _, show (0 : Int) < 16 ^ 0 by decide⟩
  | k + 1 => by
    have ih := hexTo_bd s k
    have hd := av_bd (bt s k)
    have e : (16 : Int) ^ (k + 1) = 16 ^ k * 16 := Int.pow_succ 16 k
    simp only [hexTo]
    omega
theorem hexTo_fits (s : ByteArray) (k : Nat) (hk : k ≤ 16) : 0 ≤ hexTo s k ∧ hexTo s k ≤ 18446744073709551615 := by
  have hb := hexTo_bd s k
  have hp : (16 : Nat) ^ k ≤ 16 ^ 16 := Nat.pow_le_pow_right (by decide) hk
  have hp' : (16 : Int) ^ k ≤ 16 ^ 16 := by exact_mod_cast hp
  have e : (16 : Int) ^ 16 = 18446744073709551616 := by decide
  omega
theorem hexTo_small (s : ByteArray) (k : Nat) (hk : k < 16) : 0 ≤ hexTo s k ∧ hexTo s k ≤ 1152921504606846975 := by
  have hb := hexTo_bd s k
  have hp : (16 : Nat) ^ k ≤ 16 ^ 15 := Nat.pow_le_pow_right (by decide) (by omega)
  have hp' : (16 : Int) ^ k ≤ 16 ^ 15 := by exact_mod_cast hp
  have e : (16 : Int) ^ 15 = 1152921504606846976 := by decide
  omega

theorem wraps_u64 (n : Int) (h₀ : 0 ≤ n) (h₁ : n < 2 ^ 64) : IntKind.u64.wrap n = n := IntWalk.u64_in n ⟨h₀, by omega⟩
theorem or16 (x d : Int) (h0 : 0 ≤ x) (h1 : x ≤ 1152921504606846975) (h2 : 0 ≤ d) (h3 : d ≤ 15) : bits .or .u64 (x * 16) d = x * 16 + d :=
  bits_join .u64 64 (by decide) wraps_u64 4 (x * 16) d (by omega) (by omega) (by omega) h2 (by omega) (by omega)

/-- a text is 1 to 16 digits of base 16 -/
def HexForm (s : ByteArray) : Prop := 0 < s.size ∧ s.size ≤ 16 ∧ AllHex s s.size

theorem unhexnum_size (s : ByteArray) (m : Int) (w : World) (h : s.size = 0 ∨ 16 < s.size) (hs : s.size ≤ 4611686018427387904) :
    Calls Tryd.prog 47 #[.string s, .int .i64 m] w fun e w' => e = .returned (.tuple #[.int .i64 0, .int .i64 3]) ∧ w = w' := by
  rcases h with h | h
  · have g : ((s.size : Int) == 0) = true := beq_iff_eq.2 (by omega)
    go_enter Tryd.func47, Tryd.ntmps47
    go_wp2
    go_ret2
    exact ⟨rfl, rfl⟩
  · have g : ((s.size : Int) == 0) = false := beq_eq_false_iff_ne.2 (by omega)
    go_enter Tryd.func47, Tryd.ntmps47
    go_wp2
    go_ret2
    exact ⟨rfl, rfl⟩

def UnhexnumPost (s : ByteArray) (m : Int) (w : World) (e : Ending) (w' : World) : Prop :=
  ((HexForm s ∧ e = .returned (.tuple #[.int .i64 (amN (hexTo s s.size) m), .int .i64 (amE (hexTo s s.size) m)])) ∨ (¬ HexForm s ∧ e = .returned (.tuple #[.int .i64 0, .int .i64 3]))) ∧ w = w'

theorem unhexnum_loop (s : ByteArray) (m : Int) (w : World) (h : 0 < s.size) (h16 : s.size ≤ 16) (h2 : -9223372036854775808 ≤ m) (h3 : m ≤ 9223372036854775807) :
    Calls Tryd.prog 47 #[.string s, .int .i64 m] w (UnhexnumPost s m w) := by
  have hb := get_bt s
  have g : ((s.size : Int) == 0) = false := beq_eq_false_iff_ne.2 (by omega)
  go_enter Tryd.func47, Tryd.ntmps47
  go_wp2
  go_loop [6, 7] (fun n i => ∃ k : Nat, k ≤ s.size ∧ i = .int .i64 k ∧ AllHex s k ∧ n = .int .u64 (hexTo s k)) (fun _ i => s.size - (intOf i).toNat)
  case atStart => exact ⟨0, Nat.zero_le _, rfl, AllHex.zero s, rfl⟩
  case round =>
    obtain ⟨k, hk, rfl, ha, rfl⟩ := hrel
    have b0 := bt_nonneg s k
    have b1 := bt_le s k
    by_cases hlt : k < s.size
    · obtain ⟨d0, d1⟩ := hexTo_small s k (by omega)
      obtain ⟨v0, v1⟩ := av_bd (bt s k)
      cases c : aok (bt s k) with
      | true =>
        have C := Lib.hid c
        go_wp2_with fail
        refine (any_any _ _ b0 b1).mono ?_
        rintro e w' ⟨rfl, rfl⟩
        go_wp2
        go_round
        case rel => exact ⟨k + 1, by omega, by go_num, ha.succ C.out, by rw [or16 _ _ d0 d1 v0 v1]; rfl⟩
        case measure => simp [intOf]; omega
      | false =>
        have C := Lib.hid c
        go_wp2_with fail
        refine (any_any _ _ b0 b1).mono ?_
        rintro e w' ⟨rfl, rfl⟩
        go_wp2
        go_ret2
        exact ⟨.inr ⟨fun h => (by have := h.2.2 k hlt; rw [C.out] at this; cases this), rfl⟩, rfl⟩
    · have e : k = s.size := by omega
      obtain ⟨d0, d1⟩ := hexTo_fits s k (by omega)
      have E := Lib.hid e
      have hf : HexForm s := ⟨h, h16, e ▸ ha⟩
      clear e
      go_wp2_with fail
      refine (atMost_any _ _ _ (by omega) (by omega) h2 h3).mono ?_
      rintro e w' ⟨rfl, rfl⟩
      rw [E.out]
      go_wp2
      go_ret2
      exact ⟨.inl ⟨hf, rfl⟩, rfl⟩

theorem unhexnum_any (s : ByteArray) (m : Int) (w : World) (hs : s.size ≤ 4611686018427387904) (h2 : -9223372036854775808 ≤ m) (h3 : m ≤ 9223372036854775807) :
    Calls Tryd.prog 47 #[.string s, .int .i64 m] w (UnhexnumPost s m w) := by
  by_cases h : 0 < s.size ∧ s.size ≤ 16
  · exact unhexnum_loop s m w h.1 h.2 h2 h3
  · exact (unhexnum_size s m w (by omega) hs).mono fun e w' ⟨he, hw⟩ => ⟨.inr ⟨fun hf => h ⟨hf.1, hf.2.1⟩, he⟩, hw⟩
theorem unhexnum_yes (s : ByteArray) (m : Int) (w : World) (h : HexForm s) (h2 : -9223372036854775808 ≤ m) (h3 : m ≤ 9223372036854775807) :
    Calls Tryd.prog 47 #[.string s, .int .i64 m] w fun e w' => e = .returned (.tuple #[.int .i64 (amN (hexTo s s.size) m), .int .i64 (amE (hexTo s s.size) m)]) ∧ w = w' :=
  (unhexnum_any s m w (by have := h.2.1; omega) h2 h3).mono fun e w' ⟨he, hw⟩ => ⟨he.elim (fun x => x.2) (fun x => absurd h x.1), hw⟩
theorem unhexnum_no (s : ByteArray) (m : Int) (w : World) (hs : s.size ≤ 4611686018427387904) (h : ¬ HexForm s) (h2 : -9223372036854775808 ≤ m) (h3 : m ≤ 9223372036854775807) :
    Calls Tryd.prog 47 #[.string s, .int .i64 m] w fun e w' => e = .returned (.tuple #[.int .i64 0, .int .i64 3]) ∧ w = w' :=
  (unhexnum_any s m w hs h2 h3).mono fun e w' ⟨he, hw⟩ => ⟨he.elim (fun x => absurd x.1 h) (fun x => x.2), hw⟩
end Go.Proofs.YtjdfninaccaagaaDoor.Hx
