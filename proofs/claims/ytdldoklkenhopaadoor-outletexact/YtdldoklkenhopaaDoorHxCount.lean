/-
  Numbers there and back, in plain terms: a number's digits are read as the number.
-/
import Derived.Test.YtdldoklkenhopaaDoorHxBack
namespace Go.Proofs.YtdldoklkenhopaaDoor.Hx
open Go.RowKit Go.PlainAid
set_option linter.unusedVariables false
set_option maxRecDepth 20000

theorem digL_ne (b n : Nat) : 0 < (digL b n).length := by
  rw [digL]; split <;> simp
theorem digL_len (b : Nat) : ∀ k n, n < (b + 2) ^ (k + 1) → (digL b n).length ≤ k + 1
  | 0, n, h => by rw [digL_small b n (by simpa using h)]; simp
  | k + 1, n, h => by
    by_cases c : n < b + 2
    · rw [digL_small b n c]; simp
    · rw [digL_great b n c]
      have := digL_len b k (n / (b + 2)) (by rw [Nat.div_lt_iff_lt_mul (by omega), ← Nat.pow_succ]; exact h)
      simp; omega
theorem digL_mem (b n : Nat) : ∀ c ∈ digL b n, ∃ d, d < b + 2 ∧ c = hd d := by
  induction n using Nat.strongRecOn with
  | _ n ih =>
    by_cases c : n < b + 2
    · rw [digL_small b n c]; intro x hx; simp at hx; exact ⟨n, c, hx⟩
    · rw [digL_great b n c]
      intro x hx
      rcases List.mem_append.1 hx with h | h
      · exact ih _ (Nat.div_lt_self (by omega) (by omega)) x h
      · simp at h; exact ⟨n % (b + 2), Nat.mod_lt _ (by omega), h⟩
theorem digL_first (b n : Nat) (h : 0 < n) : ∃ d r, 0 < d ∧ d < b + 2 ∧ digL b n = hd d :: r := by
  induction n using Nat.strongRecOn with
  | _ n ih =>
    by_cases c : n < b + 2
    · exact ⟨n, [], h, c, digL_small b n c⟩
    · obtain ⟨d, r, h0, h1, e⟩ := ih (n / (b + 2)) (Nat.div_lt_self (by omega) (by omega)) (Nat.div_pos (by omega) (by omega))
      exact ⟨d, r ++ [hd (n % (b + 2))], h0, h1, by rw [digL_great b n c, e]; rfl⟩

theorem bt_pre (l r : List UInt8) (j : Nat) (h : j < l.length) : bt ⟨(l ++ r).toArray⟩ j = bt ⟨l.toArray⟩ j := by
  rw [bt_mk _ _ (by simp; omega), bt_mk _ _ h, List.getElem_append_left h]
theorem bt_last (l : List UInt8) (c : UInt8) : bt ⟨(l ++ [c]).toArray⟩ l.length = (c.toNat : Int) := by
  rw [bt_mk _ _ (by simp)]; simp
theorem decTo_pre (l r : List UInt8) : ∀ k, k ≤ l.length → decTo ⟨(l ++ r).toArray⟩ k = decTo ⟨l.toArray⟩ k
  | 0, _ => rfl
  | k + 1, h => by rw [decTo, decTo, decTo_pre l r k (by omega), bt_pre l r k (by omega)]
theorem hexTo_pre (l r : List UInt8) : ∀ k, k ≤ l.length → hexTo ⟨(l ++ r).toArray⟩ k = hexTo ⟨l.toArray⟩ k
  | 0, _ => rfl
  | k + 1, h => by rw [hexTo, hexTo, hexTo_pre l r k (by omega), bt_pre l r k (by omega)]

theorem dec_val (n : Nat) : decTo ⟨(digL 8 n).toArray⟩ (digL 8 n).length = n := by
  induction n using Nat.strongRecOn with
  | _ n ih =>
    by_cases c : n < 8 + 2
    · rw [digL_small 8 n c]
      simp only [List.length_singleton, decTo]
      rw [bt_mk [hd n] 0 (by simp)]
      have := hd_nat n (by omega)
      simp [this]; rw [if_pos (by omega)]; omega
    · rw [digL_great 8 n c, List.length_append, List.length_singleton, decTo, decTo_pre _ _ _ (Nat.le_refl _), bt_last, ih _ (Nat.div_lt_self (by omega) (by omega)), hd_nat _ (by omega), if_pos (by omega)]
      omega
theorem av_hd (n : Nat) (h : n < 16) : av ((hd n).toNat : Int) = n := by
  have : ∀ m : Fin 16, av ((hd m.val).toNat : Int) = m.val := by decide
  exact this ⟨n, h⟩
theorem aok_hd (n : Nat) (h : n < 16) : aok ((hd n).toNat : Int) = true := by
  have : ∀ m : Fin 16, aok ((hd m.val).toNat : Int) = true := by decide
  exact this ⟨n, h⟩
theorem hex_val (n : Nat) : hexTo ⟨(digL 14 n).toArray⟩ (digL 14 n).length = n := by
  induction n using Nat.strongRecOn with
  | _ n ih =>
    by_cases c : n < 14 + 2
    · rw [digL_small 14 n c]
      simp only [List.length_singleton, hexTo]
      rw [bt_mk [hd n] 0 (by simp)]
      have := av_hd n (by omega)
      simpa using this
    · rw [digL_great 14 n c, List.length_append, List.length_singleton, hexTo, hexTo_pre _ _ _ (Nat.le_refl _), bt_last, ih _ (Nat.div_lt_self (by omega) (by omega)), av_hd _ (by omega)]
      omega

theorem dec_form (n : Nat) : DecForm ⟨(digL 8 n).toArray⟩ := by
  refine ⟨digL_ne 8 n, fun h1 => ?_, fun j hj => ?_⟩
  · rw [size_mk] at h1
    have hn : 0 < n := by
      rcases Nat.eq_zero_or_pos n with e | e
      · subst e; rw [digL_small 8 0 (by omega)] at h1; simp at h1
      · exact e
    obtain ⟨d, r, h0, hd1, e⟩ := digL_first 8 n hn
    rw [e, bt_mk _ 0 (by simp)]
    have := hd_nat d (by omega)
    simp [this]; rw [if_pos (by omega)]; omega
  · rw [size_mk] at hj
    rw [bt_mk _ _ hj]
    obtain ⟨d, h0, e⟩ := digL_mem 8 n _ (List.getElem_mem hj)
    rw [e, hd_nat d (by omega), if_pos (by omega)]
    omega
theorem hex_form (n : Nat) (h : (n : Int) ≤ 9223372036854775807) : HexForm ⟨(digL 14 n).toArray⟩ := by
  refine ⟨digL_ne 14 n, ?_, fun j hj => ?_⟩
  · rw [size_mk]
    exact digL_len 14 15 n (by have : (14 + 2) ^ (15 + 1) = 18446744073709551616 := by decide
                               omega)
  · rw [size_mk] at hj
    rw [bt_mk _ _ hj]
    obtain ⟨d, h0, e⟩ := digL_mem 14 n _ (List.getElem_mem hj)
    rw [e]; exact aok_hd d (by omega)
theorem dec_len (n : Nat) (h : (n : Int) ≤ 9223372036854775807) : (digL 8 n).length ≤ 19 :=
  digL_len 8 18 n (by have : (8 + 2) ^ (18 + 1) = 10000000000000000000 := by decide
                      omega)

theorem dec_inj (a b : Nat) : (digL 8 a == digL 8 b) = ((a : Int) == (b : Int)) := by
  by_cases e : a = b
  · subst e; simp
  · have h : digL 8 a ≠ digL 8 b := fun h => e (by have h1 := dec_val a; rw [h, dec_val b] at h1; omega)
    rw [beq_eq_false_iff_ne.2 h, beq_eq_false_iff_ne.2 (by omega)]
theorem hex_inj (a b : Nat) : (digL 14 a == digL 14 b) = ((a : Int) == (b : Int)) := by
  by_cases e : a = b
  · subst e; simp
  · have h : digL 14 a ≠ digL 14 b := fun h => e (by have h1 := hex_val a; rw [h, hex_val b] at h1; omega)
    rw [beq_eq_false_iff_ne.2 h, beq_eq_false_iff_ne.2 (by omega)]

theorem dec_any (n : Nat) (w : World) (h1 : (n : Int) ≤ 9223372036854775807) :
    Calls Tryd.prog 17 #[.int .i64 n] w fun e w' => e = .returned (.string ⟨(digL 8 n).toArray⟩) ∧ Below w.heap.size w w' :=
  dec_pos n w (by omega) h1
end Go.Proofs.YtdldoklkenhopaaDoor.Hx
