/-
  Contracts of the document's answers of layer 1 for numbers: Undec, Unhexnum, Dec, Hexnum; and those of hexa brought to the same form.
-/
import Derived.Test.YtdldoklkenhopaaGreatDoorHxRefB
import Derived.Test.YtdldoklkenhopaaGreatDoorSet4
namespace Go.Proofs.YtdldoklkenhopaaGreatDoor.Hx
open Go.RowKit Go.PlainAid
set_option linter.unusedVariables false
set_option maxRecDepth 20000

/-- what is read as a number at most m -/
def Fits (v m : Int) : Prop := v ≤ m ∧ v ≤ 4611686018427387904
def NumPost (form : Prop) (v m : Int) (w : World) (e : Ending) (w' : World) : Prop :=
  ((¬ form ∧ e = .returned (.tuple #[.int .i64 0, .int .i64 3])) ∨ (form ∧ Fits v m ∧ e = .returned (.tuple #[.int .i64 v, .int .i64 0])) ∨ (form ∧ ¬ Fits v m ∧ e = .returned (.tuple #[.int .i64 0, .int .i64 14]))) ∧ w = w'

theorem decTo_first {s : ByteArray} {n : Nat} (h : AllDig s n) (h0 : 49 ≤ bt s 0) : ∀ k, k < n → (10 : Int) ^ k ≤ decTo s (k + 1)
  | 0, hk => by simp only [decTo]; have : (10 : Int) ^ 0 = 1 := by decide
                omega
  | k + 1, hk => by
    have ih := decTo_first h h0 k (by omega)
    have hd := h (k + 1) hk
    have e : (10 : Int) ^ (k + 1) = 10 ^ k * 10 := Int.pow_succ 10 k
    rw [decTo]
    omega
theorem decTo_long {s : ByteArray} (h : DecForm s) (hl : 19 < s.size) : 10000000000000000000 ≤ decTo s s.size := by
  have h0 := h.2.2 0 (by omega)
  have hne := h.2.1 (by omega)
  obtain ⟨k, hk⟩ : ∃ k, s.size = k + 1 := ⟨s.size - 1, by omega⟩
  have := decTo_first h.2.2 (by omega) k (by omega)
  rw [hk]
  have hp : (10 : Nat) ^ 19 ≤ 10 ^ k := Nat.pow_le_pow_right (by decide) (by omega)
  have hp' : (10 : Int) ^ 19 ≤ 10 ^ k := by exact_mod_cast hp
  have e : (10 : Int) ^ 19 = 10000000000000000000 := by decide
  omega

theorem undec_num (s : ByteArray) (m : Int) (w : World) (hs : s.size ≤ 100) (h2 : -9223372036854775808 ≤ m) (h3 : m ≤ 9223372036854775807) :
    Calls Tryz.prog 88 #[.string s, .int .i64 m] w (NumPost (DecForm s) (decTo s s.size) m w) := by
  by_cases hf : DecForm s
  · by_cases hl : 19 < s.size
    · have := decTo_long hf hl
      exact (undec_long s m w (by omega) hf hl).mono fun e w' ⟨he, hw⟩ => ⟨.inr (.inr ⟨hf, fun h => by have := h.2; omega, he⟩), hw⟩
    · have hb := decTo_fits hf.2.2 (by omega) s.size (Nat.le_refl _)
      refine (undec_short s m w hf (by omega) h2 h3).mono fun e w' ⟨he, hw⟩ => ⟨?_, hw⟩
      by_cases c : Fits (decTo s s.size) m
      · right; left
        refine ⟨hf, c, ?_⟩
        rw [he]
        unfold amN amE
        rw [if_pos ⟨by have := c.1; omega, c⟩, if_pos ⟨by have := c.1; omega, c⟩]
      · right; right
        refine ⟨hf, c, ?_⟩
        rw [he]
        unfold amN amE
        rw [if_neg (fun h => c h.2), if_neg (fun h => c h.2)]
  · exact (undec_form s m w (by omega) hf).mono fun e w' ⟨he, hw⟩ => ⟨.inl ⟨hf, he⟩, hw⟩

theorem unhexnum_num (s : ByteArray) (m : Int) (w : World) (hs : s.size ≤ 100) (h2 : -9223372036854775808 ≤ m) (h3 : m ≤ 9223372036854775807) :
    Calls Tryz.prog 93 #[.string s, .int .i64 m] w (NumPost (HexForm s) (hexTo s s.size) m w) := by
  by_cases hf : HexForm s
  · have hb := hexTo_bd s s.size
    refine (unhexnum_yes s m w hf h2 h3).mono fun e w' ⟨he, hw⟩ => ⟨?_, hw⟩
    by_cases c : Fits (hexTo s s.size) m
    · right; left
      refine ⟨hf, c, ?_⟩
      rw [he]
      unfold amN amE
      rw [if_pos ⟨by have := c.1; omega, c⟩, if_pos ⟨by have := c.1; omega, c⟩]
    · right; right
      refine ⟨hf, c, ?_⟩
      rw [he]
      unfold amN amE
      rw [if_neg (fun h => c h.2), if_neg (fun h => c h.2)]
  · exact (unhexnum_no s m w (by omega) hf h2 h3).mono fun e w' ⟨he, hw⟩ => ⟨.inl ⟨hf, he⟩, hw⟩

/-- what the loop of Undec knows -/
def Great (s : ByteArray) (k : Nat) (n : Int) (g : Bool) : Prop :=
  (g = true ∧ 4611686018427387904 < decTo s k) ∨ (g = false ∧ n = decTo s k ∧ decTo s k ≤ 4611686018427387909)
theorem Great.stay {s : ByteArray} {k : Nat} {n : Int} (h : Great s k n true) (h0 : 48 ≤ bt s k) : Great s (k + 1) n true := by
  rcases h with h | h
  · left; refine ⟨rfl, ?_⟩; rw [decTo]; omega
  · cases h.1
theorem Great.turn {s : ByteArray} {k : Nat} {n : Int} (h : Great s k n false) (h0 : 48 ≤ bt s k) (hn : 461168601842738790 < n) : Great s (k + 1) n true := by
  rcases h with h | h
  · cases h.1
  · left; refine ⟨rfl, ?_⟩; rw [decTo]; omega
theorem Great.next {s : ByteArray} {k : Nat} {n : Int} (h : Great s k n false) (h1 : bt s k ≤ 57) (hn : n ≤ 461168601842738790) : Great s (k + 1) (n * 10 + (bt s k - 48)) false := by
  rcases h with h | h
  · cases h.1
  · right; refine ⟨rfl, ?_, ?_⟩ <;> rw [decTo] <;> omega
theorem Great.bd {s : ByteArray} {k : Nat} {n : Int} (h : Great s k n false) (hd : AllDig s k) : 0 ≤ n ∧ n ≤ 4611686018427387909 := by
  have := (decTo_bd hd k (Nat.le_refl _)).1
  rcases h with h | h
  · cases h.1
  · omega

end Go.Proofs.YtdldoklkenhopaaGreatDoor.Hx
