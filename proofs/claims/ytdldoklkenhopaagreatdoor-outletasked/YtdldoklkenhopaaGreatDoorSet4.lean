/-
  The document's examples of layer 1: awake answers true.
  Bytes there and back, in plain terms: Unhex of Hex, Hex of Unhex.
  Numbers there and back, in plain terms: a number's digits are read as the number.
  Bodies in chunks as plain lists of bytes: a machine that takes byte by byte; how a body is written. No program is spoken of.
  Requests, plainly: what bytes that have come begin with, and that whatever comes behind doesn't change it.
  Requests typed out, plainly: one with a length is read as it was written; one that may be read in two ways is wrong.
  Heads that are written, plainly: what is written of a start line and fields, or why nothing is; that it is read as it was.
-/
import Derived.Test.YtdldoklkenhopaaGreatDoorSet3
import Derived.Test.YtdldoklkenhopaaGreatDoorSet1
section
namespace Go.Proofs.YtdldoklkenhopaaGreatDoor.Hx
open Go.RowKit Go.PlainAid
set_option linter.unusedVariables false
set_option maxRecDepth 20000

theorem aw1 (w : World) : Calls Tryz.prog 88 #[.string ⟨#[48, 48, 55]⟩, .int .i64 9] w fun e w' => e = .returned (.tuple #[.int .i64 0, .int .i64 3]) ∧ w = w' :=
  undec_form _ _ w (by decide) (fun h => h.2.1 (by decide) (by decide))
theorem aw2f : DecForm ⟨#[49, 48]⟩ := ⟨by decide, by decide, fun j hj => by
  have : ∀ j : Fin 2, 48 ≤ bt ⟨#[49, 48]⟩ j.val ∧ bt ⟨#[49, 48]⟩ j.val ≤ 57 := by decide
  exact this ⟨j, hj⟩⟩
theorem aw2 (w : World) : Calls Tryz.prog 88 #[.string ⟨#[49, 48]⟩, .int .i64 9] w fun e w' => e = .returned (.tuple #[.int .i64 0, .int .i64 14]) ∧ w = w' :=
  undec_short ⟨#[49, 48]⟩ 9 w aw2f (by decide) (by decide) (by decide)
theorem aw3f : HexForm ⟨#[48, 48, 102, 70]⟩ := ⟨by decide, by decide, fun j hj => by
  have : ∀ j : Fin 4, aok (bt ⟨#[48, 48, 102, 70]⟩ j.val) = true := by decide
  exact this ⟨j, hj⟩⟩
theorem aw3 (w : World) : Calls Tryz.prog 93 #[.string ⟨#[48, 48, 102, 70]⟩, .int .i64 300] w fun e w' => e = .returned (.tuple #[.int .i64 255, .int .i64 0]) ∧ w = w' :=
  unhexnum_yes ⟨#[48, 48, 102, 70]⟩ 300 w aw3f (by decide) (by decide)
theorem aw5d : digL 8 9223372036854775808 = [57, 50, 50, 51, 51, 55, 50, 48, 51, 54, 56, 53, 52, 55, 55, 53, 56, 48, 56] := by
  simp [digL, hd]
theorem aw5 (w : World) : Calls Tryz.prog 21 #[.int .i64 (-9223372036854775808)] w fun e w' => e = .returned (.string ⟨#[45, 57, 50, 50, 51, 51, 55, 50, 48, 51, 54, 56, 53, 52, 55, 55, 53, 56, 48, 56]⟩) ∧ Below w.heap.size w w' := by
  have h := dec_neg (-9223372036854775808) w (by decide) (by decide)
  rw [show (- -9223372036854775808 : Int).toNat = 9223372036854775808 by decide, aw5d] at h
  exact h

end Go.Proofs.YtdldoklkenhopaaGreatDoor.Hx
end

section
namespace Go.Proofs.YtdldoklkenhopaaGreatDoor.Hx
open Go.RowKit Go.PlainAid
set_option linter.unusedVariables false
set_option maxRecDepth 20000

theorem bt_mk (l : List UInt8) (j : Nat) (h : j < l.length) : bt ⟨l.toArray⟩ j = ((l[j]).toNat : Int) := by
  have h' : j < (⟨l.toArray⟩ : ByteArray).size := by simpa [ByteArray.size] using h
  rw [bt_get _ j h']
  rfl
theorem bt_mk? (l : List UInt8) (j : Nat) (c : UInt8) (h : l[j]? = some c) : bt ⟨l.toArray⟩ j = (c.toNat : Int) := by
  obtain ⟨hj, e⟩ := List.getElem?_eq_some_iff.1 h
  rw [bt_mk l j hj, e]
theorem size_mk (l : List UInt8) : (⟨l.toArray⟩ : ByteArray).size = l.length := rfl
theorem mk_data (s : ByteArray) : (⟨s.data.toList.toArray⟩ : ByteArray) = s := by cases s; simp

theorem hexL_hi : ∀ (l : List UInt8) (j : Nat) (c : UInt8), l[j]? = some c → (hexL l)[2 * j]? = some (hd (c.toNat / 16))
  | [], j, c, h => by simp at h
  | a :: l, 0, c, h => by simp at h; subst h; simp [hexL]
  | a :: l, j + 1, c, h => by
    have ih := hexL_hi l j c (by simpa using h)
    rw [show 2 * (j + 1) = 2 * j + 2 by omega]
    simpa [hexL] using ih
theorem hexL_lo : ∀ (l : List UInt8) (j : Nat) (c : UInt8), l[j]? = some c → (hexL l)[2 * j + 1]? = some (hd (c.toNat % 16))
  | [], j, c, h => by simp at h
  | a :: l, 0, c, h => by simp at h; subst h; simp [hexL]
  | a :: l, j + 1, c, h => by
    have ih := hexL_lo l j c (by simpa using h)
    rw [show 2 * (j + 1) + 1 = 2 * j + 1 + 2 by omega]
    simpa [hexL] using ih

theorem sok_hd (n : Nat) (h : n < 16) : sok ((hd n).toNat : Int) = true := by
  have : ∀ m : Fin 16, sok ((hd m.val).toNat : Int) = true := by decide
  exact this ⟨n, h⟩
theorem sv_hd (n : Nat) (h : n < 16) : sv ((hd n).toNat : Int) = n := by
  have : ∀ m : Fin 16, sv ((hd m.val).toNat : Int) = m.val := by decide
  exact this ⟨n, h⟩
theorem hd_sv (c : UInt8) (h : sok (c.toNat : Int) = true) : hd (sv (c.toNat : Int)).toNat = c := by
  apply UInt8.toNat_inj.1
  have hb := sv_bd (c.toNat : Int)
  rw [hd_nat _ (by omega)]
  unfold sok at h
  simp at h
  rcases h with h | h
  · have e : sv (c.toNat : Int) = (c.toNat : Int) - 48 := by unfold sv; rw [if_pos (by omega)]
    rw [e]; split <;> omega
  · have e : sv (c.toNat : Int) = (c.toNat : Int) - 87 := by unfold sv; rw [if_neg (by omega), if_pos (by omega)]
    rw [e]; split <;> omega

theorem hexL_form (l : List UInt8) : UnForm ⟨(hexL l).toArray⟩ := by
  refine ⟨by rw [size_mk, hexL_len]; omega, fun j hj => ?_⟩
  rw [size_mk, hexL_len] at hj
  have hlt : j / 2 < l.length := by omega
  have hc : l[j / 2]? = some l[j / 2] := List.getElem?_eq_getElem hlt
  have hb := (l[j / 2]).toNat_lt
  by_cases e : j % 2 = 0
  · have := hexL_hi l (j / 2) _ hc
    rw [show 2 * (j / 2) = j by omega] at this
    rw [bt_mk? _ _ _ this]; exact sok_hd _ (by omega)
  · have := hexL_lo l (j / 2) _ hc
    rw [show 2 * (j / 2) + 1 = j by omega] at this
    rw [bt_mk? _ _ _ this]; exact sok_hd _ (by omega)
theorem unTo_hexL (l : List UInt8) : ∀ k, k ≤ l.length → unTo ⟨(hexL l).toArray⟩ k = l.take k
  | 0, _ => by simp [unTo]
  | k + 1, hk => by
    have hc : l[k]? = some l[k] := List.getElem?_eq_getElem (by omega)
    have hb := (l[k]).toNat_lt
    rw [unTo, unTo_hexL l k (by omega), List.take_succ_eq_append_getElem (by omega)]
    congr 2
    unfold pair
    rw [bt_mk? _ _ _ (hexL_hi l k _ hc), bt_mk? _ _ _ (hexL_lo l k _ hc), sv_hd _ (by omega), sv_hd _ (by omega)]
    apply UInt8.toNat_inj.1
    rw [UInt8.toNat_ofNat']
    omega
theorem unTo_back (l : List UInt8) : unTo ⟨(hexL l).toArray⟩ ((⟨(hexL l).toArray⟩ : ByteArray).size / 2) = l := by
  rw [size_mk, hexL_len, unTo_hexL l _ (by omega)]
  exact List.take_of_length_le (by omega)

theorem hexL_unTo (s : ByteArray) : ∀ k, 2 * k ≤ s.size → AllSm s (2 * k) → hexL (unTo s k) = s.data.toList.take (2 * k)
  | 0, _, _ => by simp [unTo, hexL]
  | k + 1, hk, ha => by
    have ih := hexL_unTo s k (by omega) (fun j hj => ha j (by omega))
    have h0 := ha (2 * k) (by omega)
    have h1 := ha (2 * k + 1) (by omega)
    rw [unTo, hexL_append, ih, show 2 * (k + 1) = 2 * k + 1 + 1 by omega, take_snoc s (2 * k + 1) (by omega), take_snoc s (2 * k) (by omega), List.append_assoc]
    congr 1
    have hp := pair_nat s k
    have b0 := sv_bd (bt s (2 * k))
    have b1 := sv_bd (bt s (2 * k + 1))
    simp only [hexL]
    rw [show (pair s k).toNat / 16 = (sv (bt s (2 * k))).toNat by omega, show (pair s k).toNat % 16 = (sv (bt s (2 * k + 1))).toNat by omega]
    rw [bt_get s _ (by omega)] at h0 ⊢
    rw [bt_get s _ (by omega)] at h1 ⊢
    rw [hd_sv _ h0, hd_sv _ h1]
    rfl
theorem hexL_back (s : ByteArray) (h : UnForm s) : hexL (unTo s (s.size / 2)) = s.data.toList := by
  have e := h.1
  rw [hexL_unTo s (s.size / 2) (by omega) (fun j hj => h.2 j (by omega))]
  exact List.take_of_length_le (by simp; omega)
end Go.Proofs.YtdldoklkenhopaaGreatDoor.Hx
end

section
namespace Go.Proofs.YtdldoklkenhopaaGreatDoor.Hx
open Go.RowKit Go.PlainAid
set_option linter.unusedVariables false
set_option maxRecDepth 20000

theorem digL_ne (b n : Nat) : 0 < (digL b n).length := by
  rw [digL]; split <;> simp
theorem digL_len (b : Nat) : ∀ k n, n < (b + 2) ^ (k + 1) → (digL b n).length ≤ k + 1
  | 0, n, h => by rw [digL_small b n (by simpa using h)]; simp
  | k + 1, n, h => by
    by_cases c : n < b + 2
    · rw [digL_small b n c]; simp
    · rw [digL_great b n c]
      have := digL_len b k (n / (b + 2)) (by rw [Nat.div_lt_iff_lt_mul (by omega), ← Nat.pow_succ]; exact h)
      simp; omega
theorem digL_mem (b n : Nat) : ∀ c ∈ digL b n, ∃ d, d < b + 2 ∧ c = hd d := by
  induction n using Nat.strongRecOn with
  | _ n ih =>
    by_cases c : n < b + 2
    · rw [digL_small b n c]; intro x hx; simp at hx; exact ⟨n, c, hx⟩
    · rw [digL_great b n c]
      intro x hx
      rcases List.mem_append.1 hx with h | h
      · exact ih _ (Nat.div_lt_self (by omega) (by omega)) x h
      · simp at h; exact ⟨n % (b + 2), Nat.mod_lt _ (by omega), h⟩
theorem digL_first (b n : Nat) (h : 0 < n) : ∃ d r, 0 < d ∧ d < b + 2 ∧ digL b n = hd d :: r := by
  induction n using Nat.strongRecOn with
  | _ n ih =>
    by_cases c : n < b + 2
    · exact ⟨n, [], h, c, digL_small b n c⟩
    · obtain ⟨d, r, h0, h1, e⟩ := ih (n / (b + 2)) (Nat.div_lt_self (by omega) (by omega)) (Nat.div_pos (by omega) (by omega))
      exact ⟨d, r ++ [hd (n % (b + 2))], h0, h1, by rw [digL_great b n c, e]; rfl⟩

theorem bt_pre (l r : List UInt8) (j : Nat) (h : j < l.length) : bt ⟨(l ++ r).toArray⟩ j = bt ⟨l.toArray⟩ j := by
  rw [bt_mk _ _ (by simp; omega), bt_mk _ _ h, List.getElem_append_left h]
theorem bt_last (l : List UInt8) (c : UInt8) : bt ⟨(l ++ [c]).toArray⟩ l.length = (c.toNat : Int) := by
  rw [bt_mk _ _ (by simp)]; simp
theorem decTo_pre (l r : List UInt8) : ∀ k, k ≤ l.length → decTo ⟨(l ++ r).toArray⟩ k = decTo ⟨l.toArray⟩ k
  | 0, _ => rfl
  | k + 1, h => by rw [decTo, decTo, decTo_pre l r k (by omega), bt_pre l r k (by omega)]
theorem hexTo_pre (l r : List UInt8) : ∀ k, k ≤ l.length → hexTo ⟨(l ++ r).toArray⟩ k = hexTo ⟨l.toArray⟩ k
  | 0, _ => rfl
  | k + 1, h => by rw [hexTo, hexTo, hexTo_pre l r k (by omega), bt_pre l r k (by omega)]

theorem dec_val (n : Nat) : decTo ⟨(digL 8 n).toArray⟩ (digL 8 n).length = n := by
  induction n using Nat.strongRecOn with
  | _ n ih =>
    by_cases c : n < 8 + 2
    · rw [digL_small 8 n c]
      simp only [List.length_singleton, decTo]
      rw [bt_mk [hd n] 0 (by simp)]
      have := hd_nat n (by omega)
      simp [this]; rw [if_pos (by omega)]; omega
    · rw [digL_great 8 n c, List.length_append, List.length_singleton, decTo, decTo_pre _ _ _ (Nat.le_refl _), bt_last, ih _ (Nat.div_lt_self (by omega) (by omega)), hd_nat _ (by omega), if_pos (by omega)]
      omega
theorem av_hd (n : Nat) (h : n < 16) : av ((hd n).toNat : Int) = n := by
  have : ∀ m : Fin 16, av ((hd m.val).toNat : Int) = m.val := by decide
  exact this ⟨n, h⟩
theorem aok_hd (n : Nat) (h : n < 16) : aok ((hd n).toNat : Int) = true := by
  have : ∀ m : Fin 16, aok ((hd m.val).toNat : Int) = true := by decide
  exact this ⟨n, h⟩
theorem hex_val (n : Nat) : hexTo ⟨(digL 14 n).toArray⟩ (digL 14 n).length = n := by
  induction n using Nat.strongRecOn with
  | _ n ih =>
    by_cases c : n < 14 + 2
    · rw [digL_small 14 n c]
      simp only [List.length_singleton, hexTo]
      rw [bt_mk [hd n] 0 (by simp)]
      have := av_hd n (by omega)
      simpa using this
    · rw [digL_great 14 n c, List.length_append, List.length_singleton, hexTo, hexTo_pre _ _ _ (Nat.le_refl _), bt_last, ih _ (Nat.div_lt_self (by omega) (by omega)), av_hd _ (by omega)]
      omega

theorem dec_form (n : Nat) : DecForm ⟨(digL 8 n).toArray⟩ := by
  refine ⟨digL_ne 8 n, fun h1 => ?_, fun j hj => ?_⟩
  · rw [size_mk] at h1
    have hn : 0 < n := by
      rcases Nat.eq_zero_or_pos n with e | e
      · subst e; rw [digL_small 8 0 (by omega)] at h1; simp at h1
      · exact e
    obtain ⟨d, r, h0, hd1, e⟩ := digL_first 8 n hn
    rw [e, bt_mk _ 0 (by simp)]
    have := hd_nat d (by omega)
    simp [this]; rw [if_pos (by omega)]; omega
  · rw [size_mk] at hj
    rw [bt_mk _ _ hj]
    obtain ⟨d, h0, e⟩ := digL_mem 8 n _ (List.getElem_mem hj)
    rw [e, hd_nat d (by omega), if_pos (by omega)]
    omega
theorem hex_form (n : Nat) (h : (n : Int) ≤ 9223372036854775807) : HexForm ⟨(digL 14 n).toArray⟩ := by
  refine ⟨digL_ne 14 n, ?_, fun j hj => ?_⟩
  · rw [size_mk]
    exact digL_len 14 15 n (by have : (14 + 2) ^ (15 + 1) = 18446744073709551616 := by decide
                               omega)
  · rw [size_mk] at hj
    rw [bt_mk _ _ hj]
    obtain ⟨d, h0, e⟩ := digL_mem 14 n _ (List.getElem_mem hj)
    rw [e]; exact aok_hd d (by omega)
theorem dec_len (n : Nat) (h : (n : Int) ≤ 9223372036854775807) : (digL 8 n).length ≤ 19 :=
  digL_len 8 18 n (by have : (8 + 2) ^ (18 + 1) = 10000000000000000000 := by decide
                      omega)

theorem dec_inj (a b : Nat) : (digL 8 a == digL 8 b) = ((a : Int) == (b : Int)) := by
  by_cases e : a = b
  · subst e; simp
  · have h : digL 8 a ≠ digL 8 b := fun h => e (by have h1 := dec_val a; rw [h, dec_val b] at h1; omega)
    rw [beq_eq_false_iff_ne.2 h, beq_eq_false_iff_ne.2 (by omega)]
theorem hex_inj (a b : Nat) : (digL 14 a == digL 14 b) = ((a : Int) == (b : Int)) := by
  by_cases e : a = b
  · subst e; simp
  · have h : digL 14 a ≠ digL 14 b := fun h => e (by have h1 := hex_val a; rw [h, hex_val b] at h1; omega)
    rw [beq_eq_false_iff_ne.2 h, beq_eq_false_iff_ne.2 (by omega)]

theorem undec_digits (n : Nat) (m : Int) (w : World) (h : (n : Int) ≤ 9223372036854775807) (h2 : -9223372036854775808 ≤ m) (h3 : m ≤ 9223372036854775807) :
    Calls Tryz.prog 88 #[.string ⟨(digL 8 n).toArray⟩, .int .i64 m] w fun e w' => e = .returned (.tuple #[.int .i64 (amN n m), .int .i64 (amE n m)]) ∧ w = w' := by
  have c := undec_short ⟨(digL 8 n).toArray⟩ m w (dec_form n) (dec_len n h) h2 h3
  rw [size_mk, dec_val] at c
  exact c
theorem unhexnum_digits (n : Nat) (m : Int) (w : World) (h : (n : Int) ≤ 9223372036854775807) (h2 : -9223372036854775808 ≤ m) (h3 : m ≤ 9223372036854775807) :
    Calls Tryz.prog 93 #[.string ⟨(digL 14 n).toArray⟩, .int .i64 m] w fun e w' => e = .returned (.tuple #[.int .i64 (amN n m), .int .i64 (amE n m)]) ∧ w = w' := by
  have c := unhexnum_yes ⟨(digL 14 n).toArray⟩ m w (hex_form n h) h2 h3
  rw [size_mk, hex_val] at c
  exact c
theorem dec_any (n : Nat) (w : World) (h1 : (n : Int) ≤ 9223372036854775807) :
    Calls Tryz.prog 21 #[.int .i64 n] w fun e w' => e = .returned (.string ⟨(digL 8 n).toArray⟩) ∧ Below w.heap.size w w' :=
  dec_pos n w (by omega) h1
end Go.Proofs.YtdldoklkenhopaaGreatDoor.Hx
end

section
namespace Go.Proofs.YtdldoklkenhopaaGreatDoor.Ch
open Go.RowKit Go.PlainAid
open Hx Fi
set_option linter.unusedVariables false
set_option maxRecDepth 20000
set_option linter.unusedSimpArgs false

/-! ### the number of a chunk's line -/
def hexB (c : UInt8) : Bool := aok (c.toNat : Int)
/-- the digits that a text begins with, and what is behind them -/
def hxP (t : List UInt8) : List UInt8 := t.takeWhile hexB
def hxR (t : List UInt8) : List UInt8 := t.dropWhile hexB
/-- what may stand behind the number -/
def okR : List UInt8 → Bool
  | [] => true
  | c :: r => (c == 32 || c == 9 || c == 59) && isTxt (c :: r)
def numV (t : List UInt8) : Int := hexTo (tx (hxP t)) (hxP t).length
/-- the number of a line, of at most m; what is wrong -/
def numF (t : List UInt8) (m : Int) : Except Int Nat :=
  if okR (hxR t) = true ∧ 0 < (hxP t).length ∧ (hxP t).length ≤ 16 then
    (if 0 ≤ m ∧ numV t ≤ m ∧ numV t ≤ 4611686018427387904 then .ok (numV t).toNat else .error 4)
  else .error 3
theorem numV_nonneg (t : List UInt8) : 0 ≤ numV t := (hexTo_bd _ _).1
theorem numF_ok {t : List UInt8} {m : Int} {n : Nat} (h : numF t m = .ok n) : (n : Int) ≤ m ∧ (n : Int) ≤ 4611686018427387904 := by
  unfold numF at h
  split at h
  · split at h
    · rename_i h1 h2
      have := numV_nonneg t
      injection h with h
      omega
    · cases h
  · cases h
theorem numF_err {t : List UInt8} {m : Int} {e : Int} (h : numF t m = .error e) : e = 3 ∨ e = 4 := by
  unfold numF at h
  split at h
  · split at h
    · cases h
    · injection h with h; exact .inr h.symm
  · injection h with h; exact .inl h.symm
theorem takeW_all {p : UInt8 → Bool} : ∀ {l : List UInt8}, (∀ c ∈ l, p c = true) → l.takeWhile p = l ∧ l.dropWhile p = []
  | [], _ => ⟨rfl, rfl⟩
  | c :: l, h => by
    have ih := takeW_all (l := l) (fun x hx => h x (List.mem_cons_of_mem _ hx))
    have hc := h c (List.mem_cons_self ..)
    simp [List.takeWhile_cons, List.dropWhile_cons, hc, ih.1, ih.2]
theorem numF_digits (n : Nat) (m : Int) (h1 : (n : Int) ≤ 4611686018427387904) : numF (digL 14 n) m = if (n : Int) ≤ m then .ok n else .error 4 := by
  have ha : ∀ c ∈ digL 14 n, hexB c = true := fun c hc => by
    obtain ⟨d, h0, e⟩ := digL_mem 14 n c hc
    rw [e]; exact aok_hd d (by omega)
  obtain ⟨e1, e2⟩ := takeW_all ha
  have hf := hex_form n (by omega)
  have hl : (digL 14 n).length ≤ 16 := by
    have := hf.2.1
    rwa [size_mk] at this
  have hv : numV (digL 14 n) = n := by
    unfold numV hxP
    rw [e1]
    exact hex_val n
  unfold numF
  rw [hv]
  unfold hxP hxR
  rw [e1, e2, if_pos ⟨rfl, digL_ne 14 n, hl⟩]
  by_cases c : (n : Int) ≤ m
  · rw [if_pos ⟨by omega, c, h1⟩, if_pos c]; rfl
  · rw [if_neg (fun x => c x.2.1), if_neg c]

/-! ### the machine -/
inductive Md where
  | line (acc : List UInt8)
  | data (n : Nat)
  | cr
  | lf
  | trail (acc : List UInt8) (k : Nat)
  | done (rest : List UInt8)
  | err (e : Int)
/-- where it stands; how many bytes of data there were; the data that wasn't taken -/
structure CS where
  md : Md
  n : Nat
  u : List UInt8
/-- behind a chunk's line; acc is what is ahead of its last byte -/
def endL (most : Nat) (n : Nat) (acc : List UInt8) : Md :=
  if acc.getLast? = some 13 then
    match numF acc.dropLast ((most : Int) - (n : Int)) with
    | .error e => .err e
    | .ok 0 => .trail [] 0
    | .ok (k + 1) => .data (k + 1)
  else .err 3
/-- behind a line of the end -/
def endT (k : Nat) (acc : List UInt8) : Md :=
  if acc.getLast? = some 13 then
    (if acc.dropLast = [] then .done []
    else if (parseF acc.dropLast).isSome = true then (if 16 ≤ k then .err 4 else .trail [] (k + 1)) else .err 3)
  else .err 3
def stepB (most : Nat) (s : CS) (b : UInt8) : CS :=
  match s.md with
  | .line acc => if b = 10 then ⟨endL most s.n acc, s.n, s.u⟩ else if 255 ≤ acc.length then ⟨.err 3, s.n, s.u⟩ else ⟨.line (acc ++ [b]), s.n, s.u⟩
  | .data k => ⟨if k ≤ 1 then .cr else .data (k - 1), s.n + 1, s.u ++ [b]⟩
  | .cr => ⟨if b = 13 then .lf else .err 3, s.n, s.u⟩
  | .lf => ⟨if b = 10 then .line [] else .err 3, s.n, s.u⟩
  | .trail acc k => if b = 10 then ⟨endT k acc, s.n, s.u⟩ else if 255 ≤ acc.length then ⟨.err 3, s.n, s.u⟩ else ⟨.trail (acc ++ [b]) k, s.n, s.u⟩
  | .done r => ⟨.done (r ++ [b]), s.n, s.u⟩
  | .err e => s
def run (most : Nat) (s : CS) (l : List UInt8) : CS := l.foldl (stepB most) s
def init : CS := ⟨.line [], 0, []⟩
section
variable {most : Nat}
theorem run_nil (s : CS) : run most s [] = s := rfl
theorem run_cons (s : CS) (b : UInt8) (l : List UInt8) : run most s (b :: l) = run most (stepB most s b) l := rfl
theorem run_append (s : CS) (l r : List UInt8) : run most s (l ++ r) = run most (run most s l) r := List.foldl_append
theorem run_err (e : Int) (n : Nat) (u : List UInt8) : ∀ l, run most ⟨.err e, n, u⟩ l = ⟨.err e, n, u⟩
  | [] => rfl
  | b :: l => by rw [run_cons]; exact run_err e n u l
theorem run_done (n : Nat) (u : List UInt8) : ∀ (l r : List UInt8), run most ⟨.done r, n, u⟩ l = ⟨.done (r ++ l), n, u⟩
  | [], r => by rw [run_nil, List.append_nil]
  | b :: l, r => by
    rw [run_cons]
    show run most ⟨.done (r ++ [b]), n, u⟩ l = _
    rw [run_done n u l, List.append_assoc]; rfl
/-- a line under way -/
theorem run_line (n : Nat) (u : List UInt8) : ∀ (l acc : List UInt8), (10 : UInt8) ∉ l → acc.length + l.length ≤ 255 → run most ⟨.line acc, n, u⟩ l = ⟨.line (acc ++ l), n, u⟩
  | [], acc, _, _ => by rw [run_nil, List.append_nil]
  | b :: l, acc, h, hl => by
    simp only [List.length_cons, List.mem_cons, not_or] at h hl
    rw [run_cons]
    have e : stepB most ⟨.line acc, n, u⟩ b = ⟨.line (acc ++ [b]), n, u⟩ := by
      show (if b = 10 then _ else if 255 ≤ acc.length then _ else _) = _
      rw [if_neg (fun x => h.1 x.symm), if_neg (by omega)]
    rw [e, run_line n u l _ h.2 (by simp; omega), List.append_assoc]; rfl
theorem run_line_long (n : Nat) (u : List UInt8) : ∀ (l acc : List UInt8), (10 : UInt8) ∉ l.take (256 - acc.length) → acc.length ≤ 255 → 256 ≤ acc.length + l.length → run most ⟨.line acc, n, u⟩ l = ⟨.err 3, n, u⟩
  | [], acc, _, h1, h2 => by simp at h2; omega
  | b :: l, acc, h, h1, h2 => by
    rw [show 256 - acc.length = (255 - acc.length) + 1 by omega, List.take_succ_cons] at h
    simp only [List.length_cons, List.mem_cons, not_or] at h h2
    rw [run_cons]
    by_cases c : 255 ≤ acc.length
    · have e : stepB most ⟨.line acc, n, u⟩ b = ⟨.err 3, n, u⟩ := by
        show (if b = 10 then _ else if 255 ≤ acc.length then _ else _) = _
        rw [if_neg (fun x => h.1 x.symm), if_pos c]
      rw [e, run_err]
    · have e : stepB most ⟨.line acc, n, u⟩ b = ⟨.line (acc ++ [b]), n, u⟩ := by
        show (if b = 10 then _ else if 255 ≤ acc.length then _ else _) = _
        rw [if_neg (fun x => h.1 x.symm), if_neg c]
      rw [e]
      exact run_line_long n u l _ (by rw [List.length_append, List.length_singleton, show 256 - (acc.length + 1) = 255 - acc.length by omega]; exact h.2) (by simp; omega) (by simp; omega)
theorem run_line_end (n : Nat) (u l r : List UInt8) (acc : List UInt8) (h : (10 : UInt8) ∉ l) (hl : acc.length + l.length ≤ 255) : run most ⟨.line acc, n, u⟩ (l ++ 10 :: r) = run most ⟨endL most n (acc ++ l), n, u⟩ r := by
  rw [run_append, run_line n u l acc h hl, run_cons]; rfl
theorem run_trail (n : Nat) (u : List UInt8) (k : Nat) : ∀ (l acc : List UInt8), (10 : UInt8) ∉ l → acc.length + l.length ≤ 255 → run most ⟨.trail acc k, n, u⟩ l = ⟨.trail (acc ++ l) k, n, u⟩
  | [], acc, _, _ => by rw [run_nil, List.append_nil]
  | b :: l, acc, h, hl => by
    simp only [List.length_cons, List.mem_cons, not_or] at h hl
    rw [run_cons]
    have e : stepB most ⟨.trail acc k, n, u⟩ b = ⟨.trail (acc ++ [b]) k, n, u⟩ := by
      show (if b = 10 then _ else if 255 ≤ acc.length then _ else _) = _
      rw [if_neg (fun x => h.1 x.symm), if_neg (by omega)]
    rw [e, run_trail n u k l _ h.2 (by simp; omega), List.append_assoc]; rfl
theorem run_trail_long (n : Nat) (u : List UInt8) (k : Nat) : ∀ (l acc : List UInt8), (10 : UInt8) ∉ l.take (256 - acc.length) → acc.length ≤ 255 → 256 ≤ acc.length + l.length → run most ⟨.trail acc k, n, u⟩ l = ⟨.err 3, n, u⟩
  | [], acc, _, h1, h2 => by simp at h2; omega
  | b :: l, acc, h, h1, h2 => by
    rw [show 256 - acc.length = (255 - acc.length) + 1 by omega, List.take_succ_cons] at h
    simp only [List.length_cons, List.mem_cons, not_or] at h h2
    rw [run_cons]
    by_cases c : 255 ≤ acc.length
    · have e : stepB most ⟨.trail acc k, n, u⟩ b = ⟨.err 3, n, u⟩ := by
        show (if b = 10 then _ else if 255 ≤ acc.length then _ else _) = _
        rw [if_neg (fun x => h.1 x.symm), if_pos c]
      rw [e, run_err]
    · have e : stepB most ⟨.trail acc k, n, u⟩ b = ⟨.trail (acc ++ [b]) k, n, u⟩ := by
        show (if b = 10 then _ else if 255 ≤ acc.length then _ else _) = _
        rw [if_neg (fun x => h.1 x.symm), if_neg c]
      rw [e]
      exact run_trail_long n u k l _ (by rw [List.length_append, List.length_singleton, show 256 - (acc.length + 1) = 255 - acc.length by omega]; exact h.2) (by simp; omega) (by simp; omega)
theorem run_trail_end (n : Nat) (u l r : List UInt8) (k : Nat) (acc : List UInt8) (h : (10 : UInt8) ∉ l) (hl : acc.length + l.length ≤ 255) : run most ⟨.trail acc k, n, u⟩ (l ++ 10 :: r) = run most ⟨endT k (acc ++ l), n, u⟩ r := by
  rw [run_append, run_trail n u k l acc h hl, run_cons]; rfl
/-- data under way -/
theorem run_data (n : Nat) (u : List UInt8) : ∀ (l : List UInt8) (n : Nat) (u : List UInt8) (k : Nat), l.length < k → run most ⟨.data k, n, u⟩ l = ⟨.data (k - l.length), n + l.length, u ++ l⟩
  | [], n, u, k, h => by rw [run_nil, List.append_nil]; rfl
  | b :: l, n, u, k, h => by
    simp only [List.length_cons] at h
    rw [run_cons]
    have e : stepB most ⟨.data k, n, u⟩ b = ⟨.data (k - 1), n + 1, u ++ [b]⟩ := by
      show (⟨if k ≤ 1 then .cr else .data (k - 1), n + 1, u ++ [b]⟩ : CS) = _
      rw [if_neg (by omega)]
    rw [e, run_data n u l (n + 1) _ (k - 1) (by omega), List.append_assoc, List.length_cons, show k - 1 - l.length = k - (l.length + 1) by omega, show n + 1 + l.length = n + (l.length + 1) by omega]
    rfl
theorem run_data_all (l : List UInt8) (n : Nat) (u : List UInt8) (k : Nat) (h : l.length = k) (h0 : 0 < k) : run most ⟨.data k, n, u⟩ l = ⟨.cr, n + k, u ++ l⟩ := by
  obtain ⟨m, c, rfl⟩ : ∃ m c, l = m ++ [c] := ⟨l.dropLast, l.getLast (by intro e; subst e; simp at h; omega), (List.dropLast_concat_getLast _).symm⟩
  simp at h
  rw [run_append, run_data n u m n u k (by omega), run_cons, run_nil]
  show (⟨if k - m.length ≤ 1 then .cr else .data (k - m.length - 1), n + m.length + 1, u ++ m ++ [c]⟩ : CS) = _
  rw [if_pos (by omega), List.append_assoc, show n + m.length + 1 = n + k by omega]
/-- what was taken doesn't matter -/
theorem step_shift (md : Md) (n : Nat) (u v : List UInt8) (b : UInt8) : stepB most ⟨md, n, u ++ v⟩ b = ⟨(stepB most ⟨md, n, v⟩ b).md, (stepB most ⟨md, n, v⟩ b).n, u ++ (stepB most ⟨md, n, v⟩ b).u⟩ := by
  cases md <;> unfold stepB <;> simp only
  · split
    · rfl
    · split <;> rfl
  · rw [List.append_assoc]
  · split
    · rfl
    · split <;> rfl
theorem run_shift (u : List UInt8) : ∀ (l : List UInt8) (s : CS), run most ⟨s.md, s.n, u ++ s.u⟩ l = ⟨(run most s l).md, (run most s l).n, u ++ (run most s l).u⟩
  | [], s => rfl
  | b :: l, s => by
    rw [run_cons, run_cons, step_shift]
    exact run_shift u l (stepB most s b)
end

/-! ### lines of what has come -/
/-- the line that a text begins with, without 0A: within 256 bytes -/
def lineC (l : List UInt8) : Option (List UInt8) := (cutB 10 (l.take 256)).map Prod.fst
theorem lineC_some {l t : List UInt8} (h : lineC l = some t) : l = t ++ 10 :: l.drop (t.length + 1) ∧ (10 : UInt8) ∉ t ∧ t.length ≤ 255 ∧ t.length + 1 ≤ l.length := by
  unfold lineC at h
  cases hq : cutB 10 (l.take 256) with
  | none => rw [hq] at h; cases h
  | some p =>
    obtain ⟨x, y⟩ := p
    rw [hq] at h
    have e : x = t := by simpa using h
    subst e
    obtain ⟨e, hx⟩ := cutB_some hq
    have hlen := congrArg List.length e
    rw [List.length_take, List.length_append, List.length_cons] at hlen
    have e2 : l = x ++ 10 :: (y ++ l.drop 256) := by
      have : l = l.take 256 ++ l.drop 256 := (List.take_append_drop _ _).symm
      rw [e] at this
      simpa using this
    refine ⟨?_, hx, by omega, by omega⟩
    have e3 : l.drop (x.length + 1) = y ++ l.drop 256 := by
      have := congrArg (List.drop (x.length + 1)) e2
      rw [this, show x ++ 10 :: (y ++ l.drop 256) = (x ++ [10]) ++ (y ++ l.drop 256) by simp, List.drop_left' (by simp)]
    rw [e3]; exact e2
theorem lineC_none {l : List UInt8} (h : lineC l = none) : (10 : UInt8) ∉ l.take 256 := by
  unfold lineC at h
  exact cutB_none.1 (by simpa using h)
theorem read_line {most n : Nat} {u l t : List UInt8} (h : lineC l = some t) : run most ⟨.line [], n, u⟩ l = run most ⟨endL most n t, n, u⟩ (l.drop (t.length + 1)) := by
  obtain ⟨e, h1, h2, _⟩ := lineC_some h
  have := run_line_end (most := most) n u t (l.drop (t.length + 1)) [] h1 (by simpa using h2)
  rw [← e] at this
  simpa using this
theorem read_line_wait {most n : Nat} {u l : List UInt8} (h : lineC l = none) (hl : l.length < 256) : run most ⟨.line [], n, u⟩ l = ⟨.line l, n, u⟩ := by
  have h1 := lineC_none h
  rw [List.take_of_length_le (by omega)] at h1
  have := run_line (most := most) n u l [] h1 (by simp; omega)
  simpa using this
theorem read_line_bad {most n : Nat} {u l : List UInt8} (h : lineC l = none) (hl : 256 ≤ l.length) : run most ⟨.line [], n, u⟩ l = ⟨.err 3, n, u⟩ :=
  run_line_long n u l [] (lineC_none h) (by simp) (by simpa using hl)
theorem read_trail {most n k : Nat} {u l t : List UInt8} (h : lineC l = some t) : run most ⟨.trail [] k, n, u⟩ l = run most ⟨endT k t, n, u⟩ (l.drop (t.length + 1)) := by
  obtain ⟨e, h1, h2, _⟩ := lineC_some h
  have := run_trail_end (most := most) n u t (l.drop (t.length + 1)) k [] h1 (by simpa using h2)
  rw [← e] at this
  simpa using this
theorem read_trail_wait {most n k : Nat} {u l : List UInt8} (h : lineC l = none) (hl : l.length < 256) : run most ⟨.trail [] k, n, u⟩ l = ⟨.trail l k, n, u⟩ := by
  have h1 := lineC_none h
  rw [List.take_of_length_le (by omega)] at h1
  have := run_trail (most := most) n u k l [] h1 (by simp; omega)
  simpa using this
theorem read_trail_bad {most n k : Nat} {u l : List UInt8} (h : lineC l = none) (hl : 256 ≤ l.length) : run most ⟨.trail [] k, n, u⟩ l = ⟨.err 3, n, u⟩ :=
  run_trail_long n u k l [] (lineC_none h) (by simp) (by simpa using hl)

/-! ### what bytes come to -/
def Md.isDone : Md → Bool
  | .done _ => true
  | _ => false
def Md.rest : Md → List UInt8
  | .done r => r
  | _ => []
def Md.error : Md → Int
  | .err e => e
  | _ => 0

/-! ### bounds -/
/-- how many bytes there may be, with those that are told of -/
def Md.ahead : Md → Nat
  | .data k => k
  | _ => 0
def Md.Good : Md → Prop
  | .data k => 0 < k
  | .err e => e = 3 ∨ e = 4
  | _ => True
structure CS.Ok (most : Nat) (s : CS) : Prop where
  n : s.n + s.md.ahead ≤ most
  u : s.u.length ≤ s.n
  g : s.md.Good
theorem endL_ok {most n : Nat} (acc : List UInt8) (h : n ≤ most) : n + (endL most n acc).ahead ≤ most ∧ (endL most n acc).Good := by
  unfold endL
  split
  · cases hq : numF acc.dropLast ((most : Int) - (n : Int)) with
    | error e => exact ⟨h, numF_err hq⟩
    | ok k =>
      have := (numF_ok hq).1
      cases k with
      | zero => exact ⟨h, trivial⟩
      | succ k => exact ⟨by show n + (k + 1) ≤ most; omega, Nat.succ_pos k⟩
  · exact ⟨h, .inl rfl⟩
theorem endT_ok {most n : Nat} (k : Nat) (acc : List UInt8) (h : n ≤ most) : n + (endT k acc).ahead ≤ most ∧ (endT k acc).Good := by
  unfold endT
  split
  · split
    · exact ⟨h, trivial⟩
    · split
      · split
        · exact ⟨h, .inr rfl⟩
        · exact ⟨h, trivial⟩
      · exact ⟨h, .inl rfl⟩
  · exact ⟨h, .inl rfl⟩
theorem CS.Ok.step {most : Nat} {s : CS} (h : s.Ok most) (b : UInt8) : (stepB most s b).Ok most := by
  obtain ⟨md, n, u⟩ := s
  obtain ⟨h1, h2, h3⟩ := h
  simp only at h1 h2 h3
  cases md with
  | line acc =>
    unfold stepB; simp only
    split
    · have := endL_ok (most := most) (n := n) acc (by simpa [Md.ahead] using h1)
      exact ⟨this.1, h2, this.2⟩
    · split
      · exact ⟨h1, h2, .inl rfl⟩
      · exact ⟨h1, h2, trivial⟩
  | data k =>
    have h1' : n + k ≤ most := h1
    have h3' : 0 < k := h3
    unfold stepB; simp only
    by_cases c : k ≤ 1
    · rw [if_pos c]
      exact ⟨by show n + 1 + 0 ≤ most; omega, by simp; omega, trivial⟩
    · rw [if_neg c]
      exact ⟨by show n + 1 + (k - 1) ≤ most; omega, by simp; omega, by show 0 < k - 1; omega⟩
  | cr =>
    unfold stepB; simp only
    split
    · exact ⟨h1, h2, trivial⟩
    · exact ⟨h1, h2, .inl rfl⟩
  | lf =>
    unfold stepB; simp only
    split
    · exact ⟨h1, h2, trivial⟩
    · exact ⟨h1, h2, .inl rfl⟩
  | trail acc k =>
    unfold stepB; simp only
    split
    · have := endT_ok (most := most) (n := n) k acc (by simpa [Md.ahead] using h1)
      exact ⟨this.1, h2, this.2⟩
    · split
      · exact ⟨h1, h2, .inl rfl⟩
      · exact ⟨h1, h2, trivial⟩
  | done r =>
    unfold stepB; simp only
    exact ⟨h1, h2, trivial⟩
  | err e =>
    unfold stepB; simp only
    exact ⟨h1, h2, h3⟩
theorem CS.Ok.run {most : Nat} : ∀ {l : List UInt8} {s : CS}, s.Ok most → (Ch.run most s l).Ok most
  | [], s, h => h
  | b :: l, s, h => by
    rw [run_cons]
    exact CS.Ok.run (h.step b)
theorem init_ok (most : Nat) : init.Ok most := ⟨Nat.zero_le _, Nat.le_refl _, trivial⟩
/-- what is read only grows; what is behind an error or the end stays -/
theorem run_grows {most : Nat} : ∀ (l : List UInt8) (s : CS), ∃ v, (run most s l).u = s.u ++ v ∧ (run most s l).n = s.n + v.length
  | [], s => ⟨[], by rw [run_nil, List.append_nil], rfl⟩
  | b :: l, s => by
    obtain ⟨v, h1, h2⟩ := run_grows (most := most) l (stepB most s b)
    have hs : ∃ x : List UInt8, (stepB most s b).u = s.u ++ x ∧ (stepB most s b).n = s.n + x.length := by
      obtain ⟨md, n, u⟩ := s
      cases md with
      | data k => exact ⟨[b], rfl, rfl⟩
      | line acc =>
        refine ⟨[], ?_⟩
        unfold stepB; simp only
        split
        · exact ⟨by simp, rfl⟩
        · split <;> exact ⟨by simp, rfl⟩
      | trail acc k =>
        refine ⟨[], ?_⟩
        unfold stepB; simp only
        split
        · exact ⟨by simp, rfl⟩
        · split <;> exact ⟨by simp, rfl⟩
      | cr => exact ⟨[], by simp [stepB], rfl⟩
      | lf => exact ⟨[], by simp [stepB], rfl⟩
      | done r => exact ⟨[], by simp [stepB], rfl⟩
      | err e => exact ⟨[], by simp [stepB], rfl⟩
    obtain ⟨x, e1, e2⟩ := hs
    refine ⟨x ++ v, ?_, ?_⟩
    · rw [run_cons, h1, e1, List.append_assoc]
    · rw [run_cons, h2, e2, List.length_append]; omega

/-! ### how a body is written -/
/-- in chunks of by + 1 bytes -/
def wrt (by_ : Nat) (s : List UInt8) : List UInt8 :=
  if h : s = [] then [48, 13, 10, 13, 10]
  else digL 14 (min (by_ + 1) s.length) ++ [13, 10] ++ s.take (by_ + 1) ++ [13, 10] ++ wrt by_ (s.drop (by_ + 1))
termination_by s.length
decreasing_by
  have : 0 < s.length := List.length_pos_iff.2 h
  rw [List.length_drop]; omega
theorem wrt_nil (b : Nat) : wrt b [] = [48, 13, 10, 13, 10] := by rw [wrt, dif_pos rfl]
theorem wrt_more (b : Nat) {s : List UInt8} (h : s ≠ []) : wrt b s = digL 14 (min (b + 1) s.length) ++ [13, 10] ++ s.take (b + 1) ++ [13, 10] ++ wrt b (s.drop (b + 1)) := by
  rw [wrt, dif_neg h]
theorem wrt_great {a b : Nat} {s : List UInt8} (ha : s.length ≤ a + 1) (hb : s.length ≤ b + 1) : wrt a s = wrt b s := by
  by_cases h : s = []
  · subst h; rw [wrt_nil, wrt_nil]
  · rw [wrt_more a h, wrt_more b h, List.drop_of_length_le ha, List.drop_of_length_le hb, List.take_of_length_le ha, List.take_of_length_le hb, wrt_nil, wrt_nil, Nat.min_eq_right ha, Nat.min_eq_right hb]
theorem digL_no10 (n : Nat) : (10 : UInt8) ∉ digL 14 n ∧ (13 : UInt8) ∉ digL 14 n := by
  have : ∀ m : Fin 16, hd m.val ≠ 10 ∧ hd m.val ≠ 13 := by decide
  exact ⟨fun h => by
    obtain ⟨d, h0, e⟩ := digL_mem 14 n _ h
    exact (this ⟨d, h0⟩).1 e.symm, fun h => by
    obtain ⟨d, h0, e⟩ := digL_mem 14 n _ h
    exact (this ⟨d, h0⟩).2 e.symm⟩
theorem read_number {most n k : Nat} (u r : List UInt8) (hk : (k : Int) ≤ 4611686018427387904) : run most ⟨.line [], n, u⟩ (digL 14 k ++ [13, 10] ++ r) = run most ⟨if (k : Int) ≤ (most : Int) - n then (if k = 0 then .trail [] 0 else .data k) else .err 4, n, u⟩ r := by
  have hl : (digL 14 k).length ≤ 16 := digL_len 14 15 k (by
    have : (14 + 2) ^ (15 + 1) = 18446744073709551616 := by decide
    omega)
  have h := run_line_end (most := most) n u (digL 14 k ++ [13]) r [] (by simp [(digL_no10 k).1]) (by simp; omega)
  rw [show digL 14 k ++ [13, 10] ++ r = (digL 14 k ++ [13]) ++ 10 :: r by simp, h]
  congr 2
  unfold endL
  rw [List.nil_append, if_pos (by simp), List.dropLast_concat, numF_digits k _ hk]
  by_cases c : (k : Int) ≤ (most : Int) - n
  · rw [if_pos c, if_pos c]
    cases k with
    | zero => rfl
    | succ k => rw [if_neg (by omega)]
  · rw [if_neg c, if_neg c]
theorem read_chunk {most n : Nat} (u d r : List UInt8) (hd0 : d ≠ []) (hm : n + d.length ≤ most) (hk : (d.length : Int) ≤ 4611686018427387904) : run most ⟨.line [], n, u⟩ (digL 14 d.length ++ [13, 10] ++ d ++ [13, 10] ++ r) = run most ⟨.line [], n + d.length, u ++ d⟩ r := by
  have h0 : 0 < d.length := List.length_pos_iff.2 hd0
  rw [show digL 14 d.length ++ [13, 10] ++ d ++ [13, 10] ++ r = digL 14 d.length ++ [13, 10] ++ (d ++ 13 :: 10 :: r) by simp, read_number u _ hk, if_pos (by omega), if_neg (by omega), run_append, run_data_all d n u d.length rfl h0]
  rfl
theorem read_end {most n : Nat} (u r : List UInt8) (h : n ≤ most) : run most ⟨.line [], n, u⟩ ([48, 13, 10, 13, 10] ++ r) = ⟨.done r, n, u⟩ := by
  have h0 : digL 14 0 = [48] := by rw [digL_small 14 0 (by omega)]; decide
  have e := read_number (most := most) (n := n) (k := 0) u ([13, 10] ++ r) (by omega)
  rw [h0, if_pos (by omega), if_pos rfl] at e
  rw [show ([48, 13, 10, 13, 10] ++ r : List UInt8) = [48] ++ [13, 10] ++ ([13, 10] ++ r) from rfl, e]
  have e2 := run_trail_end (most := most) n u [13] r 0 [] (by decide) (by decide)
  rw [show ([13, 10] ++ r : List UInt8) = [13] ++ 10 :: r from rfl, e2]
  have : endT 0 ([] ++ [13]) = .done [] := by
    unfold endT
    rw [if_pos (by decide), if_pos (by decide)]
  rw [this, run_done]; rfl
theorem read_back (b most : Nat) : ∀ (k : Nat) (s : List UInt8), s.length ≤ k → ∀ (n : Nat) (u r : List UInt8), n + s.length ≤ most → (s.length : Int) ≤ 4611686018427387904 → run most ⟨.line [], n, u⟩ (wrt b s ++ r) = ⟨.done r, n + s.length, u ++ s⟩ := by
  intro k
  induction k with
  | zero =>
    intro s hs n u r hm hk
    have : s = [] := List.eq_nil_of_length_eq_zero (by omega)
    subst this
    rw [wrt_nil, read_end u r (by simpa using hm), List.append_nil]; rfl
  | succ k ih =>
    intro s hs n u r hm hk
    by_cases h : s = []
    · subst h
      rw [wrt_nil, read_end u r (by simpa using hm), List.append_nil]; rfl
    · have h0 : 0 < s.length := List.length_pos_iff.2 h
      have hl : (s.take (b + 1)).length = min (b + 1) s.length := List.length_take
      have hne : s.take (b + 1) ≠ [] := fun e => by rw [e] at hl; simp at hl; omega
      rw [wrt_more b h, ← hl, List.append_assoc, read_chunk u (s.take (b + 1)) _ hne (by omega) (by omega), ih (s.drop (b + 1)) (by rw [List.length_drop]; omega) _ _ r (by rw [List.length_drop, hl]; omega) (by rw [List.length_drop]; omega)]
      rw [List.append_assoc, List.take_append_drop, List.length_drop, hl]
      congr 1; omega
/-- with less than there is room for it is too long -/
theorem read_long (b most : Nat) : ∀ (k : Nat) (s : List UInt8), s.length ≤ k → ∀ (n : Nat) (u r : List UInt8), n ≤ most → most < n + s.length → (s.length : Int) ≤ 4611686018427387904 → ∃ n' u', run most ⟨.line [], n, u⟩ (wrt b s ++ r) = ⟨.err 4, n', u'⟩ := by
  intro k
  induction k with
  | zero => intro s hs n u r hn hm hk; omega
  | succ k ih =>
    intro s hs n u r hn hm hk
    have h : s ≠ [] := fun e => by subst e; simp at hm; omega
    have h0 : 0 < s.length := List.length_pos_iff.2 h
    have hl : (s.take (b + 1)).length = min (b + 1) s.length := List.length_take
    have hne : s.take (b + 1) ≠ [] := fun e => by rw [e] at hl; simp at hl; omega
    rw [wrt_more b h, ← hl, List.append_assoc]
    by_cases c : n + (s.take (b + 1)).length ≤ most
    · rw [read_chunk u (s.take (b + 1)) _ hne c (by omega)]
      exact ih (s.drop (b + 1)) (by rw [List.length_drop]; omega) _ _ r c (by rw [List.length_drop, hl]; omega) (by rw [List.length_drop]; omega)
    · rw [show digL 14 (s.take (b + 1)).length ++ [13, 10] ++ s.take (b + 1) ++ [13, 10] ++ (wrt b (s.drop (b + 1)) ++ r) = digL 14 (s.take (b + 1)).length ++ [13, 10] ++ (s.take (b + 1) ++ [13, 10] ++ (wrt b (s.drop (b + 1)) ++ r)) by simp, read_number u _ (by omega), if_neg (by omega), run_err]
      exact ⟨n, u, rfl⟩
/-- cut off it isn't whole: no error, no end, and data that the body begins with -/
theorem read_part {most : Nat} {p q s : List UInt8} (hq : q ≠ []) (h : run most init (p ++ q) = ⟨.done [], s.length, s⟩) : (∀ e, (run most init p).md ≠ .err e) ∧ (run most init p).md.isDone = false ∧ ∃ v, s = (run most init p).u ++ v := by
  rw [run_append] at h
  obtain ⟨v, h1, h2⟩ := run_grows (most := most) q (run most init p)
  refine ⟨fun e he => ?_, ?_, v, ?_⟩
  · generalize run most init p = x at h he
    obtain ⟨md, n, u⟩ := x
    simp only at he
    subst he
    rw [run_err] at h
    cases h
  · generalize run most init p = x at h
    obtain ⟨md, n, u⟩ := x
    cases md with
    | done r =>
      rw [run_done] at h
      injection h with h _ _
      injection h with h
      exact absurd (List.append_eq_nil_iff.1 h).2 hq
    | _ => rfl
  · rw [h] at h1; exact h1
end Go.Proofs.YtdldoklkenhopaaGreatDoor.Ch
end

section
namespace Go.Proofs.YtdldoklkenhopaaGreatDoor.In
open Go.RowKit Go.PlainAid
open Hx Fi Ch
set_option linter.unusedVariables false
set_option maxRecDepth 20000
set_option linter.unusedSimpArgs false

/-! ### a request line -/
def visB (b : UInt8) : Bool := decide (33 ≤ b ∧ b ≤ 126)
/-- the two digits of a version -/
def verF (v : List UInt8) : Option (UInt8 × UInt8) :=
  if v.length = 8 ∧ v.take 5 = [72, 84, 84, 80, 47] ∧ v.getD 6 0 = 46 ∧ (48 ≤ v.getD 5 0 ∧ v.getD 5 0 ≤ 57) ∧ 48 ≤ v.getD 7 0 ∧ v.getD 7 0 ≤ 57 then some (v.getD 5 0, v.getD 7 0) else none
def lnQ (l : List UInt8) : Except Int (List UInt8 × List UInt8 × Nat) :=
  match cutB 32 l with
  | none => .error 400
  | some (m, r) =>
    if isTok m = true then
      match cutB 32 r with
      | none => .error 400
      | some (t, v) =>
        if t ≠ [] ∧ t.all visB = true then
          match verF v with
          | none => .error 400
          | some (a, b) => if a = 49 ∧ b ≤ 49 then .ok (m, t, b.toNat - 48) else .error 505
        else .error 400
    else .error 400
theorem lnQ_err {l : List UInt8} {st : Int} (h : lnQ l = .error st) : st = 400 ∨ st = 505 := by
  unfold lnQ at h
  split at h
  · injection h with h; exact .inl h.symm
  · split at h
    · split at h
      · injection h with h; exact .inl h.symm
      · split at h
        · split at h
          · injection h with h; exact .inl h.symm
          · split at h
            · cases h
            · injection h with h; exact .inr h.symm
        · injection h with h; exact .inl h.symm
    · injection h with h; exact .inl h.symm

/-! ### a request -/
structure Rq where
  m : List UInt8
  t : List UInt8
  fs : List Fi.Fd
  cl : Bool
inductive Rd where
  | more
  | bad (st : Int)
  | ok (q : Rq) (n : Nat)
def nHost : ByteArray := ⟨#[72, 111, 115, 116]⟩
/-- a head that is whole: the request, how its body is framed; or what is wrong -/
noncomputable def headQ (h : Hd) : Except Int (Rq × Fr) :=
  match lnQ h.start with
  | .error st => .error st
  | .ok (m, t, k) =>
    if 1 < getN (ls nHost) h.list ∨ (getN (ls nHost) h.list = 0 ∧ k = 1) then .error 400
    else if (frF h.list 4096).e = 4 then .error 413
    else if (frF h.list 4096).e ≠ 0 then .error 400
    else .ok (⟨m, t, h.list, closesF h.list k⟩, frF h.list 4096)
theorem headQ_err {h : Hd} {st : Int} (e : headQ h = .error st) : st = 400 ∨ st = 505 ∨ st = 413 := by
  unfold headQ at e
  cases hq : lnQ h.start with
  | error s =>
    rw [hq] at e
    injection e with e
    subst e
    rcases lnQ_err hq with e | e
    · exact .inl e
    · exact .inr (.inl e)
  | ok p =>
    rw [hq] at e
    simp only at e
    split at e
    · injection e with e; exact .inl e.symm
    · split at e
      · injection e with e; exact .inr (.inr e.symm)
      · split at e
        · injection e with e; exact .inl e.symm
        · cases e
/-- a body in chunks, of what has come behind the head -/
def bodyC (q : Rq) (R : CS) (len : Nat) : Rd :=
  if R.md.isDone = true then .ok q (len - R.md.rest.length)
  else if R.md.error = 0 then .more
  else if R.md.error = 4 then .bad 413
  else .bad 400
noncomputable def rdF (l : List UInt8) : Rd :=
  if (spl l).err = 17 then .more
  else if (spl l).err = 4 then .bad 431
  else if (spl l).err ≠ 0 then .bad 400
  else match headQ (spl l) with
    | .error st => .bad st
    | .ok (q, f) =>
      if f.c = true then bodyC q (run 4096 init (l.drop (spl l).n)) l.length
      else if l.length < (spl l).n + f.n.toNat then .more else .ok q ((spl l).n + f.n.toNat)
theorem rd_short {l : List UInt8} (h : (spl l).err = 17) : rdF l = .more := by unfold rdF; rw [if_pos h]
theorem rd_long {l : List UInt8} (h : (spl l).err = 4) : rdF l = .bad 431 := by
  unfold rdF; rw [if_neg (by omega), if_pos h]
theorem rd_form {l : List UInt8} (h : (spl l).err ≠ 17) (h4 : (spl l).err ≠ 4) (h0 : (spl l).err ≠ 0) : rdF l = .bad 400 := by
  unfold rdF; rw [if_neg h, if_neg h4, if_pos h0]
theorem rd_bad {l : List UInt8} {st : Int} (h : (spl l).err = 0) (hq : headQ (spl l) = .error st) : rdF l = .bad st := by
  unfold rdF; rw [if_neg (by omega), if_neg (by omega), if_neg (by omega), hq]
theorem rd_chunks {l : List UInt8} {q : Rq} {f : Fr} (h : (spl l).err = 0) (hq : headQ (spl l) = .ok (q, f)) (hc : f.c = true) : rdF l = bodyC q (run 4096 init (l.drop (spl l).n)) l.length := by
  unfold rdF; rw [if_neg (by omega), if_neg (by omega), if_neg (by omega), hq]
  simp only
  rw [if_pos hc]
theorem rd_sized {l : List UInt8} {q : Rq} {f : Fr} (h : (spl l).err = 0) (hq : headQ (spl l) = .ok (q, f)) (hc : f.c ≠ true) : rdF l = if l.length < (spl l).n + f.n.toNat then .more else .ok q ((spl l).n + f.n.toNat) := by
  unfold rdF; rw [if_neg (by omega), if_neg (by omega), if_neg (by omega), hq]
  simp only
  rw [if_neg hc]
theorem bodyC_stays {q : Rq} {R : CS} {len : Nat} (r : List UInt8) (h : bodyC q R len ≠ .more) : bodyC q (run 4096 R r) (len + r.length) = bodyC q R len := by
  obtain ⟨md, n, u⟩ := R
  cases md with
  | done d =>
    rw [run_done]
    unfold bodyC
    show (if true = true then Rd.ok q (len + r.length - (d ++ r).length) else _) = (if true = true then Rd.ok q (len - d.length) else _)
    rw [if_pos rfl, if_pos rfl, List.length_append]
    congr 1
    omega
  | err e =>
    rw [run_err]
    unfold bodyC
    have e1 : (Md.err e).isDone = false := rfl
    simp only [e1, Bool.false_eq_true, if_false]
  | _ => exact absurd rfl h
/-- whatever comes behind: what is whole or wrong stays -/
theorem rd_stays (l r : List UInt8) (h : rdF l ≠ .more) : rdF (l ++ r) = rdF l := by
  by_cases h17 : (spl l).err = 17
  · exact absurd (rd_short h17) h
  · have hs := spl_more l r h17
    by_cases h4 : (spl l).err = 4
    · rw [rd_long h4, rd_long (by rw [hs]; exact h4)]
    · by_cases h0 : (spl l).err = 0
      · cases hq : headQ (spl l) with
        | error st => rw [rd_bad h0 hq, rd_bad (by rw [hs]; exact h0) (by rw [hs]; exact hq)]
        | ok p =>
          obtain ⟨q, f⟩ := p
          by_cases hc : f.c = true
          · rw [rd_chunks h0 hq hc] at h ⊢
            rw [rd_chunks (by rw [hs]; exact h0) (by rw [hs]; exact hq) hc, hs, List.drop_append_of_le_length (spl_n l), run_append, List.length_append]
            exact bodyC_stays r h
          · rw [rd_sized h0 hq hc] at h ⊢
            rw [rd_sized (by rw [hs]; exact h0) (by rw [hs]; exact hq) hc, hs, List.length_append]
            by_cases hl : l.length < (spl l).n + f.n.toNat
            · rw [if_pos hl] at h; exact absurd rfl h
            · rw [if_neg hl, if_neg (by omega)]
      · rw [rd_form h17 h4 h0, rd_form (by rw [hs]; exact h17) (by rw [hs]; exact h4) (by rw [hs]; exact h0)]
theorem rd_bad_ne {l : List UInt8} {st : Int} (h : rdF l = .bad st) : st ≠ 0 ∧ st ≠ 200 := by
  by_cases h17 : (spl l).err = 17
  · rw [rd_short h17] at h; cases h
  · by_cases h4 : (spl l).err = 4
    · rw [rd_long h4] at h; injection h with h; omega
    · by_cases h0 : (spl l).err = 0
      · cases hq : headQ (spl l) with
        | error s =>
          rw [rd_bad h0 hq] at h
          injection h with h
          have := headQ_err hq
          omega
        | ok p =>
          obtain ⟨q, f⟩ := p
          by_cases hc : f.c = true
          · rw [rd_chunks h0 hq hc] at h
            unfold bodyC at h
            split at h
            · cases h
            · split at h
              · cases h
              · split at h
                · injection h with h; omega
                · injection h with h; omega
          · rw [rd_sized h0 hq hc] at h
            split at h <;> cases h
      · rw [rd_form h17 h4 h0] at h; injection h with h; omega
/-! ### a whole head has bytes -/
theorem fld_pos (full : Bool) : ∀ (k : Nat) (l : List UInt8), l.length ≤ k → ∀ (at_ : Nat) (acc : List Fi.Fd), (fldF full l at_ acc).err = 0 → at_ < (fldF full l at_ acc).n := by
  intro k
  induction k with
  | zero =>
    intro l hl at_ acc h
    have : l = [] := List.eq_nil_of_length_eq_zero (by omega)
    subst this
    rw [fldF_err at_ acc lineF_nil] at h
    cases full <;> simp at h
  | succ k ih =>
    intro l hl at_ acc h
    cases hq : lineF full l with
    | error e =>
      rw [fldF_err at_ acc hq] at h
      exfalso
      have h : e = 0 := h
      unfold lineF at hq
      split at hq
      · injection hq with hq
        split at hq <;> omega
      · split at hq
        · cases hq
        · injection hq with hq; omega
    | ok p =>
      obtain ⟨x, r⟩ := p
      have hlen := lineF_len hq
      by_cases hx : x = []
      · subst hx
        rw [fldF_end at_ acc hq]
        show at_ < at_ + 2
        omega
      · cases hp : parseF x with
        | none => rw [fldF_form at_ acc hq hx hp] at h; cases h
        | some f =>
          by_cases hl32 : acc.length = 32
          · rw [fldF_long at_ acc hq hx hp hl32] at h; cases h
          · rw [fldF_step at_ acc hq hx hp hl32] at h ⊢
            have := ih r (by omega) (at_ + x.length + 2) (acc ++ [f]) h
            omega
theorem spl_pos (l : List UInt8) (h : (spl l).err = 0) : 0 < (spl l).n := by
  unfold spl at h ⊢
  cases hq : lineF (decide (4096 ≤ l.length)) (l.take 4096) with
  | error e =>
    rw [hq] at h
    exfalso
    have h : e = 0 := h
    unfold lineF at hq
    split at hq
    · injection hq with hq
      split at hq <;> omega
    · split at hq
      · cases hq
      · injection hq with hq; omega
  | ok p =>
    obtain ⟨x, r⟩ := p
    rw [hq] at h
    simp only at h ⊢
    by_cases hx : x = []
    · rw [if_pos hx] at h; cases h
    · rw [if_neg hx] at h ⊢
      by_cases hl : 1024 < x.length
      · rw [if_pos hl] at h; cases h
      · rw [if_neg hl] at h ⊢
        have := fld_pos _ r.length r (Nat.le_refl _) (x.length + 2) [] h
        show 0 < (fldF (decide (4096 ≤ l.length)) r (x.length + 2) []).n
        omega
/-- what is behind a body is behind the head -/
theorem rest_le (M : Nat) : ∀ (l : List UInt8) (s : CS), (run M s l).md.rest.length ≤ s.md.rest.length + l.length
  | [], s => by rw [run_nil]; exact Nat.le_add_right _ _
  | b :: l, s => by
    have ih := rest_le M l (stepB M s b)
    rw [run_cons]
    have hs : (stepB M s b).md.rest.length ≤ s.md.rest.length + 1 := by
      obtain ⟨md, n, u⟩ := s
      cases md with
      | done r => simp [stepB, Md.rest]
      | line a =>
        unfold stepB
        simp only
        split
        · unfold endL
          split
          · split <;> simp [Md.rest]
          · simp [Md.rest]
        · split <;> simp [Md.rest]
      | data k => unfold stepB; simp only; split <;> simp [Md.rest]
      | cr => unfold stepB; simp only; split <;> simp [Md.rest]
      | lf => unfold stepB; simp only; split <;> simp [Md.rest]
      | trail a k =>
        unfold stepB
        simp only
        split
        · unfold endT
          split
          · split
            · simp [Md.rest]
            · split
              · split <;> simp [Md.rest]
              · simp [Md.rest]
          · simp [Md.rest]
        · split <;> simp [Md.rest]
      | err e => simp [stepB]
    simp only [List.length_cons]
    omega
theorem rd_pos {l : List UInt8} {q : Rq} {n : Nat} (h : rdF l = .ok q n) : 0 < n ∧ n ≤ l.length := by
  by_cases h17 : (spl l).err = 17
  · rw [rd_short h17] at h; cases h
  · by_cases h4 : (spl l).err = 4
    · rw [rd_long h4] at h; cases h
    · by_cases h0 : (spl l).err = 0
      · have hp := spl_pos l h0
        have hn := spl_n l
        cases hq : headQ (spl l) with
        | error s => rw [rd_bad h0 hq] at h; cases h
        | ok p =>
          obtain ⟨q', f⟩ := p
          by_cases hc : f.c = true
          · rw [rd_chunks h0 hq hc] at h
            have hr := rest_le 4096 (l.drop (spl l).n) init
            rw [List.length_drop] at hr
            have hi : init.md.rest.length = 0 := rfl
            unfold bodyC at h
            split at h
            · injection h with _ h
              omega
            · split at h
              · cases h
              · split at h <;> cases h
          · rw [rd_sized h0 hq hc] at h
            split at h
            · cases h
            · injection h with _ h
              omega
      · rw [rd_form h17 h4 h0] at h; cases h
/-! ### all requests -/
structure Al where
  qs : List Rq
  st : Int
  rest : List UInt8
/-- the requests that bytes have, what is wrong then (0: nothing), and what wasn't read -/
noncomputable def allF (l : List UInt8) : Al :=
  match h : rdF l with
  | .more => ⟨[], 0, l⟩
  | .bad st => ⟨[], st, l⟩
  | .ok q n => ⟨q :: (allF (l.drop n)).qs, (allF (l.drop n)).st, (allF (l.drop n)).rest⟩
termination_by l.length
decreasing_by
  all_goals
    have := rd_pos h
    rw [List.length_drop]
    omega
theorem all_more {l : List UInt8} (h : rdF l = .more) : allF l = ⟨[], 0, l⟩ := by
  rw [allF]
  split <;> rename_i e
  · rfl
  · rw [h] at e; cases e
  · rw [h] at e; cases e
theorem all_bad {l : List UInt8} {st : Int} (h : rdF l = .bad st) : allF l = ⟨[], st, l⟩ := by
  rw [allF]
  split <;> rename_i e
  · rw [h] at e; cases e
  · rw [h] at e; injection e with e; rw [e]
  · rw [h] at e; cases e
theorem all_ok {l : List UInt8} {q : Rq} {n : Nat} (h : rdF l = .ok q n) : allF l = ⟨q :: (allF (l.drop n)).qs, (allF (l.drop n)).st, (allF (l.drop n)).rest⟩ := by
  rw [allF]
  split <;> rename_i e
  · rw [h] at e; cases e
  · rw [h] at e; cases e
  · rw [h] at e; injection e with e1 e2; rw [e1, e2]
theorem all_append (r : List UInt8) : ∀ (k : Nat) (l : List UInt8), l.length ≤ k → allF (l ++ r) = if (allF l).st = 0 then ⟨(allF l).qs ++ (allF ((allF l).rest ++ r)).qs, (allF ((allF l).rest ++ r)).st, (allF ((allF l).rest ++ r)).rest⟩ else ⟨(allF l).qs, (allF l).st, (allF l).rest ++ r⟩ := by
  intro k
  induction k with
  | zero =>
    intro l hl
    have : l = [] := List.eq_nil_of_length_eq_zero (by omega)
    subst this
    have h : rdF [] = .more := by
      cases hq : rdF [] with
      | more => rfl
      | bad st =>
        exfalso
        have hs : (spl []).err = 17 := by simp [spl, lineF, cutB]
        rw [rd_short hs] at hq; cases hq
      | ok q n => have := rd_pos hq; simp at this; omega
    rw [all_more h, if_pos rfl]
    simp
  | succ k ih =>
    intro l hl
    cases hq : rdF l with
    | more => rw [all_more hq, if_pos rfl]; simp
    | bad st =>
      have hs := rd_stays l r (by rw [hq]; intro e; cases e)
      rw [hq] at hs
      rw [all_bad hq, all_bad hs, if_neg (rd_bad_ne hq).1]
    | ok q n =>
      have hs := rd_stays l r (by rw [hq]; intro e; cases e)
      rw [hq] at hs
      obtain ⟨h1, h2⟩ := rd_pos hq
      have := ih (l.drop n) (by rw [List.length_drop]; omega)
      rw [all_ok hq, all_ok hs, List.drop_append_of_le_length h2, this]
      simp only
      split <;> simp
/-- what is left isn't a whole request -/
theorem all_rest : ∀ (k : Nat) (l : List UInt8), l.length ≤ k → (allF l).st = 0 → rdF (allF l).rest = .more := by
  intro k
  induction k with
  | zero =>
    intro l hl h
    cases hq : rdF l with
    | more => rw [all_more hq]; exact hq
    | bad st => rw [all_bad hq] at h; exact absurd h (rd_bad_ne hq).1
    | ok q n => have := rd_pos hq; omega
  | succ k ih =>
    intro l hl h
    cases hq : rdF l with
    | more => rw [all_more hq]; exact hq
    | bad st => rw [all_bad hq] at h; exact absurd h (rd_bad_ne hq).1
    | ok q n =>
      have hp := rd_pos hq
      rw [all_ok hq] at h ⊢
      exact ih (l.drop n) (by rw [List.length_drop]; omega) h
/-- what is wrong is wrong of what is left -/
theorem all_wrong : ∀ (k : Nat) (l : List UInt8), l.length ≤ k → (allF l).st ≠ 0 → rdF (allF l).rest = .bad (allF l).st := by
  intro k
  induction k with
  | zero =>
    intro l hl h
    cases hq : rdF l with
    | more => rw [all_more hq] at h; exact absurd rfl h
    | bad st => rw [all_bad hq]; exact hq
    | ok q n => have := rd_pos hq; omega
  | succ k ih =>
    intro l hl h
    cases hq : rdF l with
    | more => rw [all_more hq] at h; exact absurd rfl h
    | bad st => rw [all_bad hq]; exact hq
    | ok q n =>
      have hp := rd_pos hq
      rw [all_ok hq] at h ⊢
      exact ih (l.drop n) (by rw [List.length_drop]; omega) h
/-- each request has a byte -/
theorem all_count : ∀ (k : Nat) (l : List UInt8), l.length ≤ k → (allF l).qs.length + (allF l).rest.length ≤ l.length := by
  intro k
  induction k with
  | zero =>
    intro l hl
    cases hq : rdF l with
    | more => rw [all_more hq]; simp
    | bad st => rw [all_bad hq]; simp
    | ok q n => have := rd_pos hq; omega
  | succ k ih =>
    intro l hl
    cases hq : rdF l with
    | more => rw [all_more hq]; simp
    | bad st => rw [all_bad hq]; simp
    | ok q n =>
      have hp := rd_pos hq
      have := ih (l.drop n) (by rw [List.length_drop]; omega)
      rw [all_ok hq]
      rw [List.length_drop] at this
      show ((q :: (allF (l.drop n)).qs).length + (allF (l.drop n)).rest.length) ≤ l.length
      rw [List.length_cons]
      omega
theorem all_nil : allF [] = ⟨[], 0, []⟩ := by
  cases hq : rdF [] with
  | more => exact all_more hq
  | bad st =>
    have hs : (spl []).err = 17 := by simp [spl, lineF, cutB]
    rw [rd_short hs] at hq; cases hq
  | ok q n => have := rd_pos hq; simp at this; omega
/-- what was wrong is wrong, whatever comes; else the requests of the rest with what comes follow -/
theorem all_cut (l r : List UInt8) (h : (allF l).st = 0) : (allF (l ++ r)).qs = (allF l).qs ++ (allF ((allF l).rest ++ r)).qs ∧ (allF (l ++ r)).st = (allF ((allF l).rest ++ r)).st ∧ (allF (l ++ r)).rest = (allF ((allF l).rest ++ r)).rest := by
  rw [all_append r l.length l (Nat.le_refl _), if_pos h]
  exact ⟨rfl, rfl, rfl⟩
theorem all_cut_bad (l r : List UInt8) (h : (allF l).st ≠ 0) : (allF (l ++ r)).qs = (allF l).qs ∧ (allF (l ++ r)).st = (allF l).st := by
  rw [all_append r l.length l (Nat.le_refl _), if_neg h]
  exact ⟨rfl, rfl⟩
end Go.Proofs.YtdldoklkenhopaaGreatDoor.In
end

section
namespace Go.Proofs.YtdldoklkenhopaaGreatDoor.In
open Go.RowKit Go.PlainAid
open Hx Fi Ch
set_option linter.unusedVariables false
set_option maxRecDepth 20000
set_option linter.unusedSimpArgs false

/-- GET, a target, HTTP/1.1 -/
def getL (t : List UInt8) : List UInt8 := [71, 69, 84] ++ 32 :: (t ++ 32 :: [72, 84, 84, 80, 47, 49, 46, 49])
theorem verF_len {v : List UInt8} (h : v.length ≠ 8) : verF v = none := by unfold verF; rw [if_neg (fun x => h x.1)]
theorem lnQ_get {t : List UInt8} {p : List UInt8 × List UInt8 × Nat} (h : lnQ (getL t) = .ok p) : p = ([71, 69, 84], t, 1) ∧ t ≠ [] ∧ t.all visB = true := by
  unfold lnQ getL at h
  rw [cutB_of (by decide)] at h
  simp only at h
  rw [if_pos (show isTok [71, 69, 84] = true by decide +kernel)] at h
  by_cases h32 : (32 : UInt8) ∈ t
  · cases hq : cutB 32 (t ++ 32 :: [72, 84, 84, 80, 47, 49, 46, 49]) with
    | none => rw [hq] at h; cases h
    | some x =>
      obtain ⟨a, b⟩ := x
      rw [hq] at h
      simp only at h
      obtain ⟨e1, e2⟩ := cutB_some hq
      have hb : b.length ≠ 8 := by
        intro hb
        have hl := congrArg List.length e1
        simp only [List.length_append, List.length_cons, List.length_nil] at hl
        have ht : t = a := by
          have h1 := congrArg (List.take t.length) e1
          rw [List.take_left, show t.length = a.length by omega, List.take_left] at h1
          exact h1
        rw [ht] at h32
        exact e2 h32
      split at h
      · rw [verF_len hb] at h; cases h
      · cases h
  · rw [cutB_of h32] at h
    simp only at h
    split at h
    · rename_i ht
      rw [show verF [72, 84, 84, 80, 47, 49, 46, 49] = some (49, 49) by decide +kernel] at h
      simp only at h
      rw [if_pos (by decide)] at h
      injection h with h
      exact ⟨h.symm, ht⟩
    · cases h
theorem getL_free {t : List UInt8} (h : t.all visB = true) (b : UInt8) (hb : b < 32) : b ∉ getL t := by
  unfold getL
  simp only [List.mem_append, List.mem_cons, List.not_mem_nil, or_false, not_or]
  have hb2 : b.toNat < 32 := by simpa using UInt8.lt_iff_toNat_lt.1 hb
  have ne : ∀ c : UInt8, 32 ≤ c.toNat → ¬ b = c := by
    intro c hc e
    rw [e] at hb2; omega
  refine ⟨⟨ne 71 (by decide), ne 69 (by decide), ne 84 (by decide)⟩, ne 32 (by decide), fun hm => ?_, ne 32 (by decide), ne 72 (by decide), ne 84 (by decide), ne 84 (by decide), ne 80 (by decide), ne 47 (by decide), ne 49 (by decide), ne 46 (by decide), ne 49 (by decide)⟩
  have := List.all_eq_true.1 h b hm
  unfold visB at this
  have h33 := (of_decide_eq_true this).1
  have : (33 : UInt8).toNat ≤ b.toNat := UInt8.le_iff_toNat_le.1 h33
  have e33 : (33 : UInt8).toNat = 33 := rfl
  omega
/-! ### numbers in decimal, below 1000 -/
def decD (n : Nat) : List UInt8 := if n < 10 then [hd n] else if n < 100 then [hd (n / 10), hd (n % 10)] else [hd (n / 100), hd (n / 10 % 10), hd (n % 10)]
theorem decD_is {n : Nat} (h : n < 1000) : digL 8 n = decD n := by
  unfold decD
  by_cases h1 : n < 10
  · rw [if_pos h1, digL_small 8 n h1]
  · rw [if_neg h1, digL_great 8 n h1]
    by_cases h2 : n < 100
    · rw [if_pos h2, digL_small 8 _ (by show n / 10 < 10; omega)]; rfl
    · rw [if_neg h2, digL_great 8 _ (by show ¬ n / 10 < 10; omega), digL_small 8 _ (by show n / 10 / 10 < 10; omega)]
      show [hd (n / 10 / 10)] ++ [hd (n / 10 % 10)] ++ [hd (n % 10)] = _
      rw [show n / 10 / 10 = n / 100 by omega]; rfl
theorem decD_good : ∀ n : Fin 101, (isTxt (decD n.val) && (trimT (decD n.val) == decD n.val)) = true := by decide +kernel
/-! ### fields -/
def fHost : Fi.Fd := ⟨nHost, ⟨#[104]⟩⟩
def fLen (n : Nat) : Fi.Fd := ⟨nCL, tx (digL 8 n)⟩
theorem fHost_good : Fi.Good fHost := (good_iff _).1 (by decide +kernel)
theorem fLen_good {n : Nat} (h : n ≤ 100) : Fi.Good (fLen n) := by
  have hd := decD_good ⟨n, by omega⟩
  simp only [Bool.and_eq_true, beq_iff_eq] at hd
  refine ⟨by show isTok (ls nCL) = true; decide +kernel, ?_, ?_⟩
  · show isTxt (ls (tx (digL 8 n))) = true
    rw [ls_tx, decD_is (by omega)]; exact hd.1
  · show trimT (ls (tx (digL 8 n))) = ls (tx (digL 8 n))
    rw [ls_tx, decD_is (by omega)]; exact hd.2
theorem getN_append (nm : List UInt8) (a b : List Fi.Fd) : getN nm (a ++ b) = getN nm a + getN nm b := by
  unfold getN valsF
  rw [List.filter_append, List.map_append, List.length_append]
theorem getN_zero {nm : List UInt8} {a : List Fi.Fd} (h : ∀ x ∈ a, getN nm [x] = 0) : getN nm a = 0 := by
  induction a with
  | nil => rfl
  | cons x a ih =>
    have e : x :: a = [x] ++ a := rfl
    rw [e, getN_append, h x (by simp), ih fun y hy => h y (by simp [hy])]
theorem len_frame {n : Nat} (h : n ≤ 100) : frF [fHost, fLen n] 4096 = ⟨(n : Int), false, 0⟩ := by
  have e0 : sameL (ls nHost) (ls nTE) = false := by decide +kernel
  have e1 : sameL (ls nCL) (ls nTE) = false := by decide +kernel
  have e2 : sameL (ls nHost) (ls nCL) = false := by decide +kernel
  have e3 : sameL (ls nCL) (ls nCL) = true := by decide +kernel
  have v1 : valsF (ls nTE) [fHost, fLen n] = [] := by simp [valsF, fHost, fLen, e0, e1]
  have v2 : valsF (ls nCL) [fHost, fLen n] = [tx (digL 8 n)] := by simp [valsF, fHost, fLen, e2, e3]
  have hf : DecForm (tx (digL 8 n)) := dec_form n
  have hv : decTo (tx (digL 8 n)) (tx (digL 8 n)).size = n := by rw [tx_size]; exact dec_val n
  have hs : (tx (digL 8 n)).size ≤ 19 := by rw [tx_size]; exact dec_len n (by omega)
  have hN : undN (tx (digL 8 n)) 4096 = n := by
    unfold undN amN
    rw [if_pos hf, if_pos hs, hv, if_pos ⟨by omega, by omega, by omega⟩]
  have hE : undE (tx (digL 8 n)) 4096 = 0 := by
    unfold undE amE
    rw [if_pos hf, if_pos hs, hv, if_pos ⟨by omega, by omega, by omega⟩]
  unfold frF getN getS
  rw [v1, v2]
  show (if 0 = 0 ∧ 1 = 0 then _ else if 1 < 0 + 1 then _ else if 1 = 1 then (⟨lenN (tx (digL 8 n)) 4096, false, lenE (tx (digL 8 n)) 4096⟩ : Fr) else _) = _
  rw [if_neg (by omega), if_neg (by omega), if_pos rfl]
  unfold lenN lenE
  rw [hE, hN, if_neg (by omega), if_neg (by omega)]
/-- a request with a body of a length -/
def pipeL (t body : List UInt8) : List UInt8 := headF (getL t) [fHost, fLen body.length] ++ body
noncomputable def pipeQ (t : List UInt8) (n : Nat) : Rq := ⟨[71, 69, 84], t, [fHost, fLen n], closesF [fHost, fLen n] 1⟩
theorem getL_len (t : List UInt8) : (getL t).length = t.length + 13 := by unfold getL; simp
theorem pipe_len {t body : List UInt8} (hb : body.length ≤ 100) : (headF (getL t) [fHost, fLen body.length]).length ≤ t.length + 50 := by
  have h3 : (digL 8 body.length).length ≤ 3 := by
    rw [decD_is (by omega)]
    unfold decD
    split
    · simp
    · split <;> simp
  unfold headF
  simp only [linesF, printF, fHost, fLen, List.length_append, List.length_cons, List.length_nil, getL_len, ls_len, tx_size]
  have e1 : nHost.size = 4 := rfl
  have e2 : nCL.size = 14 := rfl
  have e3 : (⟨#[104]⟩ : ByteArray).size = 1 := rfl
  rw [e1, e2, e3]
  omega
theorem rd_pipe {t body : List UInt8} (r : List UInt8) (h : ∃ p, lnQ (getL t) = .ok p) (ht : t.length ≤ 1000) (hb : body.length ≤ 100) : rdF (pipeL t body ++ r) = .ok (pipeQ t body.length) (pipeL t body).length := by
  obtain ⟨p, hp⟩ := h
  obtain ⟨rfl, hne, hv⟩ := lnQ_get hp
  have hl := pipe_len (t := t) hb
  have hs := spl_head (getL t) [fHost, fLen body.length] (by unfold getL; simp) (by rw [getL_len]; omega) (getL_free hv 13 (by decide)) (getL_free hv 10 (by decide)) (by
    intro f hf
    simp only [List.mem_cons, List.not_mem_nil, or_false] at hf
    rcases hf with rfl | rfl
    · exact fHost_good
    · exact fLen_good hb) (by simp) (by omega)
  have hs2 := spl_more (headF (getL t) [fHost, fLen body.length]) body (by rw [hs]; simp)
  rw [hs] at hs2
  have hq : headQ ⟨0, getL t, [fHost, fLen body.length], (headF (getL t) [fHost, fLen body.length]).length⟩ = .ok (pipeQ t body.length, ⟨(body.length : Int), false, 0⟩) := by
    unfold headQ
    rw [hp]
    simp only
    have hn : getN (ls nHost) [fHost, fLen body.length] = 1 := by
      have e0 : sameL (ls nHost) (ls nHost) = true := by decide +kernel
      have e1 : sameL (ls nCL) (ls nHost) = false := by decide +kernel
      unfold getN
      simp [valsF, fHost, fLen, e0, e1]
    rw [hn, len_frame hb, if_neg (by omega)]
    simp only
    rw [if_neg (by omega), if_neg (by omega)]
    rfl
  have h1 : rdF (pipeL t body) = .ok (pipeQ t body.length) (pipeL t body).length := by
    unfold pipeL
    rw [rd_sized (q := pipeQ t body.length) (f := ⟨(body.length : Int), false, 0⟩) (by rw [hs2]) (by rw [hs2]; exact hq) (by simp), hs2, List.length_append]
    simp only
    rw [if_neg (by omega)]
    congr 1
  rw [rd_stays _ r (by rw [h1]; intro e; cases e), h1]
/-- requests behind each other -/
def pipesL : List (List UInt8 × List UInt8) → List UInt8
  | [] => []
  | p :: l => pipeL p.1 p.2 ++ pipesL l
theorem pipesL_snoc : ∀ (l : List (List UInt8 × List UInt8)) (p : List UInt8 × List UInt8), pipesL (l ++ [p]) = pipesL l ++ pipeL p.1 p.2
  | [], p => by simp [pipesL]
  | q :: l, p => by simp [pipesL, pipesL_snoc l p]
theorem all_pipes : ∀ (l : List (List UInt8 × List UInt8)), (∀ p ∈ l, (∃ x, lnQ (getL p.1) = .ok x) ∧ p.1.length ≤ 1000 ∧ p.2.length ≤ 100) → allF (pipesL l) = ⟨l.map fun p => pipeQ p.1 p.2.length, 0, []⟩
  | [], _ => all_nil
  | p :: l, h => by
    obtain ⟨h1, h2, h3⟩ := h p (by simp)
    have hr := rd_pipe (pipesL l) h1 h2 h3
    have ih := all_pipes l fun q hq => h q (by simp [hq])
    show allF (pipeL p.1 p.2 ++ pipesL l) = _
    rw [all_ok hr, List.drop_left, ih]
    rfl
/-! ### what may be read in two ways -/
/-- GET / HTTP/1.1 -/
def rootL : List UInt8 := getL [47]
theorem rd_strict {xs ys : List Fi.Fd} (r : List UInt8) (hx : ∀ x ∈ xs, Fi.Good x ∧ getN (ls nHost) [x] = 0 ∧ getN (ls nCL) [x] = 0 ∧ getN (ls nTE) [x] = 0) (hy : ∀ y ∈ ys, Fi.Good y) (hl : (xs ++ ys).length ≤ 32) (hz : (headF rootL (xs ++ ys)).length ≤ 4096)
    (hb : getN (ls nHost) ys ≠ 1 ∨ (1 < getN (ls nTE) ys + getN (ls nCL) ys)) : rdF (headF rootL (xs ++ ys) ++ r) = .bad 400 := by
  have hln : lnQ rootL = .ok ([71, 69, 84], [47], 1) := by kernel_rfl
  have hs := spl_head rootL (xs ++ ys) (by decide) (by decide) (by decide) (by decide) (by
    intro f hf
    rcases List.mem_append.1 hf with h | h
    · exact (hx f h).1
    · exact hy f h) hl hz
  have hq : headQ ⟨0, rootL, xs ++ ys, (headF rootL (xs ++ ys)).length⟩ = .error 400 := by
    have n1 : getN (ls nHost) (xs ++ ys) = getN (ls nHost) ys := by rw [getN_append, getN_zero fun x h => (hx x h).2.1, Nat.zero_add]
    have n2 : getN (ls nCL) (xs ++ ys) = getN (ls nCL) ys := by rw [getN_append, getN_zero fun x h => (hx x h).2.2.1, Nat.zero_add]
    have n3 : getN (ls nTE) (xs ++ ys) = getN (ls nTE) ys := by rw [getN_append, getN_zero fun x h => (hx x h).2.2.2, Nat.zero_add]
    unfold headQ
    rw [hln]
    simp only
    rw [n1]
    by_cases h1 : getN (ls nHost) ys = 1
    · rw [if_neg (by omega)]
      have h2 : 1 < getN (ls nTE) ys + getN (ls nCL) ys := by
        rcases hb with h | h
        · exact absurd h1 h
        · exact h
      have hf : frF (xs ++ ys) 4096 = ⟨0, false, 3⟩ := by
        unfold frF
        rw [n2, n3, if_neg (by omega), if_pos h2]
      rw [hf]
      simp only
      rw [if_neg (by omega), if_pos (by omega)]
    · rw [if_pos (show 1 < getN (ls nHost) ys ∨ (getN (ls nHost) ys = 0 ∧ True) by simp only [and_true]; omega)]
  have h1 : rdF (headF rootL (xs ++ ys)) = .bad 400 := rd_bad (by rw [hs]) (by rw [hs]; exact hq)
  rw [rd_stays _ r (by rw [h1]; intro e; cases e), h1]
end Go.Proofs.YtdldoklkenhopaaGreatDoor.In
end

section
namespace Go.Proofs.YtdldoklkenhopaaGreatDoor.Ou
open Go.RowKit Go.PlainAid
open Hx Fi Ch In
set_option linter.unusedVariables false
set_option maxRecDepth 20000
set_option linter.unusedSimpArgs false

/-! ### a request line that is typed out -/
/-- HTTP/1.1 -/
def vL : List UInt8 := [72, 84, 84, 80, 47, 49, 46, 49]
def askL (m t : List UInt8) : List UInt8 := m ++ 32 :: (t ++ 32 :: vL)
theorem vis_free {t : List UInt8} (h : t.all visB = true) (b : UInt8) (hb : b ≤ 32) : b ∉ t := by
  intro hm
  have := List.all_eq_true.1 h b hm
  unfold visB at this
  have h33 := (of_decide_eq_true this).1
  have h2 : (33 : UInt8).toNat ≤ b.toNat := UInt8.le_iff_toNat_le.1 h33
  have h3 : b.toNat ≤ (32 : UInt8).toNat := UInt8.le_iff_toNat_le.1 hb
  have e33 : (33 : UInt8).toNat = 33 := rfl
  have e32 : (32 : UInt8).toNat = 32 := rfl
  omega
theorem lnQ_ok {l : List UInt8} {p : List UInt8 × List UInt8 × Nat} (h : lnQ l = .ok p) : ∃ v, l = p.1 ++ 32 :: (p.2.1 ++ 32 :: v) ∧ (32 : UInt8) ∉ p.1 ∧ (32 : UInt8) ∉ p.2.1 ∧ isTok p.1 = true ∧ p.2.1 ≠ [] ∧ p.2.1.all visB = true ∧ v.length = 8 ∧ ∃ x y, verF v = some (x, y) ∧ p.2.2 = y.toNat - 48 := by
  unfold lnQ at h
  split at h
  · cases h
  · rename_i m r h1
    split at h
    · rename_i hm
      split at h
      · cases h
      · rename_i t v h2
        split at h
        · rename_i ht
          split at h
          · cases h
          · rename_i x y hv
            split at h
            · injection h with h
              subst h
              obtain ⟨e1, n1⟩ := cutB_some h1
              obtain ⟨e2, n2⟩ := cutB_some h2
              refine ⟨v, by rw [e1, e2], n1, n2, hm, ht.1, ht.2, ?_, x, y, hv, rfl⟩
              unfold verF at hv
              split at hv
              · rename_i hc; exact hc.1
              · cases hv
            · cases h
        · cases h
    · cases h
theorem lnQ_ask {m t : List UInt8} {p : List UInt8 × List UInt8 × Nat} (h : lnQ (askL m t) = .ok p) : p = (m, t, 1) ∧ isTok m = true ∧ t ≠ [] ∧ t.all visB = true := by
  obtain ⟨v, e, n1, n2, h1, h2, h3, h8, x, y, hv, hy⟩ := lnQ_ok h
  obtain ⟨a, b, k⟩ := p
  simp only at e n1 n2 h1 h2 h3 hy
  have e1 : (m ++ 32 :: t) ++ 32 :: vL = (a ++ 32 :: b) ++ 32 :: v := by
    have : askL m t = (m ++ 32 :: t) ++ 32 :: vL := by unfold askL; simp
    rw [← this, e]; simp
  obtain ⟨e2, e3⟩ := List.append_inj' e1 (by simp only [List.length_cons, h8]; rfl)
  injection e3 with _ e3
  have nm : (32 : UInt8) ∉ m := by
    have hc := congrArg (List.count (32 : UInt8)) e2
    rw [List.count_append, List.count_append, List.count_cons_self, List.count_cons_self, List.count_eq_zero.2 n1, List.count_eq_zero.2 n2] at hc
    exact List.count_eq_zero.1 (by omega)
  have c1 := cutB_of (b := 32) (x := m) (y := t) nm
  have c2 := cutB_of (b := 32) (x := a) (y := b) n1
  rw [e2, c2] at c1
  injection c1 with c1
  injection c1 with c1 c3
  subst c1 c3 e3
  have hv1 : verF vL = some (49, 49) := by decide +kernel
  rw [hv1] at hv
  injection hv with hv
  injection hv with _ hv
  subst hv
  exact ⟨by rw [hy]; rfl, h1, h2, h3⟩
theorem askL_len (m t : List UInt8) : (askL m t).length = m.length + t.length + 10 := by unfold askL; simp [vL]; omega
theorem askL_free {m t : List UInt8} (hm : isTok m = true) (ht : t.all visB = true) (b : UInt8) (hb : b < 32) (hk : tokB b = false) : b ∉ askL m t := by
  have hb2 : b.toNat < 32 := by simpa using UInt8.lt_iff_toNat_lt.1 hb
  have ne : ∀ c : UInt8, 32 ≤ c.toNat → ¬ b = c := by
    intro c hc e
    rw [e] at hb2; omega
  unfold askL vL
  simp only [List.mem_append, List.mem_cons, List.not_mem_nil, or_false, not_or]
  exact ⟨tok_free hm hk, ne 32 (by decide), vis_free ht b (UInt8.le_iff_toNat_le.2 (by show b.toNat ≤ 32; omega)), ne 32 (by decide), ne 72 (by decide), ne 84 (by decide), ne 84 (by decide), ne 80 (by decide), ne 47 (by decide), ne 49 (by decide), ne 46 (by decide), ne 49 (by decide)⟩

/-! ### a status line that is typed out -/
def reaB (n : Int) : ByteArray :=
  if n = 200 then ⟨#[79, 75]⟩
  else if n = 206 then ⟨#[80, 97, 114, 116, 105, 97, 108, 32, 67, 111, 110, 116, 101, 110, 116]⟩
  else if n = 304 then ⟨#[78, 111, 116, 32, 77, 111, 100, 105, 102, 105, 101, 100]⟩
  else if n = 400 then ⟨#[66, 97, 100, 32, 82, 101, 113, 117, 101, 115, 116]⟩
  else if n = 404 then ⟨#[78, 111, 116, 32, 70, 111, 117, 110, 100]⟩
  else if n = 405 then ⟨#[77, 101, 116, 104, 111, 100, 32, 78, 111, 116, 32, 65, 108, 108, 111, 119, 101, 100]⟩
  else if n = 406 then ⟨#[78, 111, 116, 32, 65, 99, 99, 101, 112, 116, 97, 98, 108, 101]⟩
  else if n = 413 then ⟨#[67, 111, 110, 116, 101, 110, 116, 32, 84, 111, 111, 32, 76, 97, 114, 103, 101]⟩
  else if n = 416 then ⟨#[82, 97, 110, 103, 101, 32, 78, 111, 116, 32, 83, 97, 116, 105, 115, 102, 105, 97, 98, 108, 101]⟩
  else if n = 431 then ⟨#[82, 101, 113, 117, 101, 115, 116, 32, 72, 101, 97, 100, 101, 114, 32, 70, 105, 101, 108, 100, 115, 32, 84, 111, 111, 32, 76, 97, 114, 103, 101]⟩
  else if n = 502 then ⟨#[66, 97, 100, 32, 71, 97, 116, 101, 119, 97, 121]⟩
  else if n = 503 then ⟨#[83, 101, 114, 118, 105, 99, 101, 32, 85, 110, 97, 118, 97, 105, 108, 97, 98, 108, 101]⟩
  else if n = 504 then ⟨#[71, 97, 116, 101, 119, 97, 121, 32, 84, 105, 109, 101, 111, 117, 116]⟩
  else if n = 505 then ⟨#[72, 84, 84, 80, 32, 86, 101, 114, 115, 105, 111, 110, 32, 78, 111, 116, 32, 83, 117, 112, 112, 111, 114, 116, 101, 100]⟩
  else ⟨#[85, 110, 107, 110, 111, 119, 110]⟩
def noB (l : List UInt8) : Bool := !(l.contains 13) && !(l.contains 10)
theorem noB_free {l : List UInt8} (h : noB l = true) : (13 : UInt8) ∉ l ∧ (10 : UInt8) ∉ l := by
  unfold noB at h
  rw [Bool.and_eq_true, Bool.not_eq_true', Bool.not_eq_true'] at h
  refine ⟨fun x => ?_, fun x => ?_⟩
  · have := List.contains_iff_mem.2 x; rw [h.1] at this; cases this
  · have := List.contains_iff_mem.2 x; rw [h.2] at this; cases this
def okR (b : ByteArray) : Bool := decide (b.size ≤ 31) && noB (ls b)
theorem okR_ite {c : Prop} [Decidable c] {a b : ByteArray} (ha : okR a = true) (hb : okR b = true) : okR (if c then a else b) = true := by
  split
  · exact ha
  · exact hb
theorem reaB_ok (n : Int) : okR (reaB n) = true := by
  unfold reaB
  repeat' first | apply okR_ite | decide +kernel
theorem reaB_size (n : Int) : (reaB n).size ≤ 31 := by
  have := reaB_ok n
  unfold okR at this
  rw [Bool.and_eq_true] at this
  exact of_decide_eq_true this.1
theorem reaB_free (n : Int) : noB (ls (reaB n)) = true := by
  have := reaB_ok n
  unfold okR at this
  rw [Bool.and_eq_true] at this
  exact this.2
def ansL (n : Nat) : List UInt8 := vL ++ 32 :: (digL 8 n ++ 32 :: ls (reaB n))
theorem dig3_free : ∀ i : Fin 500, (noB (decD (100 + i.val)) && decide ((decD (100 + i.val)).length = 3)) = true := by decide +kernel
theorem dig3 {n : Nat} (h1 : 100 ≤ n) (h2 : n ≤ 599) : noB (digL 8 n) = true ∧ (digL 8 n).length = 3 := by
  have := dig3_free ⟨n - 100, by omega⟩
  simp only [show 100 + (n - 100) = n by omega, Bool.and_eq_true, decide_eq_true_eq] at this
  rw [decD_is (by omega)]
  exact this
theorem ansL_len {n : Nat} (h1 : 100 ≤ n) (h2 : n ≤ 599) : (ansL n).length = (reaB n).size + 13 := by
  unfold ansL
  have := (dig3 h1 h2).2
  simp only [List.length_append, List.length_cons, this, ls_len]
  show 8 + _ = _
  omega
theorem ansL_free {n : Nat} (h1 : 100 ≤ n) (h2 : n ≤ 599) : (13 : UInt8) ∉ ansL n ∧ (10 : UInt8) ∉ ansL n := by
  obtain ⟨d1, d2⟩ := noB_free (dig3 h1 h2).1
  obtain ⟨r1, r2⟩ := noB_free (reaB_free n)
  unfold ansL vL
  simp only [List.mem_append, List.mem_cons, List.not_mem_nil, or_false, not_or]
  exact ⟨⟨by decide, by decide, d1, by decide, r1⟩, ⟨by decide, by decide, d2, by decide, r2⟩⟩

/-! ### heads -/
def layE (st : List UInt8) (xs : List Fi.Fd) : Int := if 32 < xs.length then 1 else if xs.all goodF = true then (if 4096 < (headF st xs).length then 4 else 0) else 1
def layS (st : List UInt8) (xs : List Fi.Fd) : ByteArray := if layE st xs = 0 then tx (headF st xs) else ⟨#[]⟩
theorem lay_ok {st : List UInt8} {xs : List Fi.Fd} (h : layE st xs = 0) : xs.length ≤ 32 ∧ (∀ f ∈ xs, Fi.Good f) ∧ (headF st xs).length ≤ 4096 ∧ layS st xs = tx (headF st xs) := by
  have hs : layS st xs = tx (headF st xs) := if_pos h
  unfold layE at h
  split at h
  · cases h
  · split at h
    · split at h
      · cases h
      · rename_i a b c
        exact ⟨by omega, fun f hf => (good_iff f).1 (List.all_eq_true.1 b f hf), by omega, hs⟩
    · cases h
theorem lay_many {st : List UInt8} {xs : List Fi.Fd} (h : 32 < xs.length) : layE st xs = 1 ∧ layS st xs = ⟨#[]⟩ := by
  have e : layE st xs = 1 := if_pos h
  exact ⟨e, by unfold layS; rw [e]; rfl⟩
theorem lay_form {st : List UInt8} {xs : List Fi.Fd} {f : Fi.Fd} (hf : f ∈ xs) (h : goodF f = false) : layE st xs = 1 ∧ layS st xs = ⟨#[]⟩ := by
  have hb : ¬ (xs.all goodF = true) := fun x => by
    have := List.all_eq_true.1 x f hf
    rw [h] at this; cases this
  have e : layE st xs = 1 := by
    unfold layE
    split
    · rfl
    · rfl
  exact ⟨e, by unfold layS; rw [e]; rfl⟩
theorem lay_long {st : List UInt8} {xs : List Fi.Fd} (h : xs.length ≤ 32) (hg : ∀ f ∈ xs, goodF f = true) (hl : 4096 < (headF st xs).length) : layE st xs = 4 ∧ layS st xs = ⟨#[]⟩ := by
  have e : layE st xs = 4 := by
    unfold layE
    rw [if_neg (by omega), if_pos (List.all_eq_true.2 hg), if_pos hl]
  exact ⟨e, by unfold layS; rw [e]; rfl⟩
theorem lay_good {st : List UInt8} {xs : List Fi.Fd} (h : xs.length ≤ 32) (hg : ∀ f ∈ xs, goodF f = true) (hl : (headF st xs).length ≤ 4096) : layE st xs = 0 ∧ layS st xs = tx (headF st xs) := by
  have e : layE st xs = 0 := by
    unfold layE
    rw [if_neg (by omega), if_pos (List.all_eq_true.2 hg), if_neg (by omega)]
  exact ⟨e, if_pos e⟩
/-- how long a head is -/
def sumF : List Fi.Fd → Nat
  | [] => 0
  | f :: l => f.n.size + f.v.size + 4 + sumF l
theorem sumF_append : ∀ (a b : List Fi.Fd), sumF (a ++ b) = sumF a + sumF b
  | [], b => by simp [sumF]
  | f :: a, b => by simp only [List.cons_append, sumF, sumF_append a b]; omega
theorem lines_sum : ∀ xs : List Fi.Fd, (linesF xs).length = sumF xs
  | [] => rfl
  | f :: l => by
    simp only [linesF, sumF, List.length_append, List.length_cons, lines_sum l, printF, List.length_nil, ls_len]
    omega
theorem head_sum (st : List UInt8) (xs : List Fi.Fd) : (headF st xs).length = st.length + 4 + sumF xs := by
  unfold headF
  simp only [List.length_append, List.length_cons, List.length_nil, lines_sum]
  omega
theorem sum_take {xs : List Fi.Fd} {k : Nat} {x : Fi.Fd} (h : xs[k]? = some x) : sumF (xs.take (k + 1)) = sumF (xs.take k) + (x.n.size + x.v.size + 4) := by
  rw [List.take_add_one, h]
  show sumF (xs.take k ++ [x]) = _
  rw [sumF_append]
  simp [sumF]
theorem lines_take {xs : List Fi.Fd} {k : Nat} {x : Fi.Fd} (h : xs[k]? = some x) : linesF (xs.take (k + 1)) = linesF (xs.take k) ++ (printF x ++ [13, 10]) := by
  rw [List.take_add_one, h]
  show linesF (xs.take k ++ [x]) = _
  rw [linesF_append]
  simp [linesF]
theorem sum_take_le (xs : List Fi.Fd) (k : Nat) : sumF (xs.take k) ≤ sumF xs := by
  have := sumF_append (xs.take k) (xs.drop k)
  rw [List.take_append_drop] at this
  omega
/-- what was written is read as it was, whatever stands behind it -/
theorem lay_back {st : List UInt8} {xs : List Fi.Fd} (h : layE st xs = 0) (h0 : st ≠ []) (h1 : st.length ≤ 1024) (h3 : (13 : UInt8) ∉ st) (h4 : (10 : UInt8) ∉ st) (r : List UInt8) : spl (headF st xs ++ r) = ⟨0, st, xs, (headF st xs).length⟩ := by
  obtain ⟨a, b, c, _⟩ := lay_ok h
  have hs := spl_head st xs h0 h1 h3 h4 b a c
  rw [spl_more _ _ (by rw [hs]; show (0 : Int) ≠ 17; decide), hs]

/-! ### answers and asks -/
def ansE (n : Int) (xs : List Fi.Fd) : Int := if n < 100 ∨ 599 < n then 1 else layE (ansL n.toNat) xs
def ansS (n : Int) (xs : List Fi.Fd) : ByteArray := if ansE n xs = 0 then tx (headF (ansL n.toNat) xs) else ⟨#[]⟩
theorem ans_out {n : Int} {xs : List Fi.Fd} (h : n < 100 ∨ 599 < n) : ansE n xs = 1 ∧ ansS n xs = ⟨#[]⟩ := by
  have e : ansE n xs = 1 := if_pos h
  exact ⟨e, by unfold ansS; rw [e]; rfl⟩
theorem ans_in {n : Int} {xs : List Fi.Fd} (h : ¬ (n < 100 ∨ 599 < n)) : ansE n xs = layE (ansL n.toNat) xs ∧ ansS n xs = layS (ansL n.toNat) xs := by
  have e : ansE n xs = layE (ansL n.toNat) xs := if_neg h
  refine ⟨e, ?_⟩
  unfold ansS layS
  rw [e]
theorem ans_ok {n : Int} {xs : List Fi.Fd} (h : ansE n xs = 0) : 100 ≤ n ∧ n ≤ 599 ∧ layE (ansL n.toNat) xs = 0 := by
  by_cases c : n < 100 ∨ 599 < n
  · rw [(ans_out c).1] at h; cases h
  · rw [(ans_in c).1] at h
    exact ⟨by omega, by omega, h⟩
def askO (m t : List UInt8) : Bool := (match lnQ (askL m t) with | .ok _ => true | .error _ => false) && decide ((askL m t).length ≤ 1024)
def askE (m t : List UInt8) (xs : List Fi.Fd) : Int := if askO m t = true then layE (askL m t) xs else 1
def askS (m t : List UInt8) (xs : List Fi.Fd) : ByteArray := if askE m t xs = 0 then tx (headF (askL m t) xs) else ⟨#[]⟩
theorem ask_out {m t : List UInt8} {xs : List Fi.Fd} (h : askO m t = false) : askE m t xs = 1 ∧ askS m t xs = ⟨#[]⟩ := by
  have e : askE m t xs = 1 := if_neg (by rw [h]; decide)
  exact ⟨e, by unfold askS; rw [e]; rfl⟩
theorem ask_in {m t : List UInt8} {xs : List Fi.Fd} (h : askO m t = true) : askE m t xs = layE (askL m t) xs ∧ askS m t xs = layS (askL m t) xs := by
  have e : askE m t xs = layE (askL m t) xs := if_pos h
  refine ⟨e, ?_⟩
  unfold askS layS
  rw [e]
theorem askO_bad {m t : List UInt8} {st : Int} (h : lnQ (askL m t) = .error st) : askO m t = false := by unfold askO; rw [h]; rfl
theorem askO_long {m t : List UInt8} (h : 1024 < m.length + t.length + 10) : askO m t = false := by
  unfold askO
  rw [askL_len, Bool.and_eq_false_iff]
  exact .inr (decide_eq_false (by omega))
theorem askO_ok {m t : List UInt8} {p : List UInt8 × List UInt8 × Nat} (h : lnQ (askL m t) = .ok p) (hl : m.length + t.length + 10 ≤ 1024) : askO m t = true := by
  unfold askO
  rw [h, askL_len, Bool.true_and]
  exact decide_eq_true hl
theorem askO_is {m t : List UInt8} (h : askO m t = true) : lnQ (askL m t) = .ok (m, t, 1) ∧ isTok m = true ∧ t ≠ [] ∧ t.all visB = true ∧ (askL m t).length ≤ 1024 := by
  unfold askO at h
  rw [Bool.and_eq_true, decide_eq_true_eq] at h
  obtain ⟨h1, h2⟩ := h
  cases hq : lnQ (askL m t) with
  | error st => rw [hq] at h1; cases h1
  | ok p =>
    obtain ⟨rfl, a, b, c⟩ := lnQ_ask hq
    exact ⟨rfl, a, b, c, h2⟩
theorem ask_ok {m t : List UInt8} {xs : List Fi.Fd} (h : askE m t xs = 0) : askO m t = true ∧ layE (askL m t) xs = 0 := by
  by_cases c : askO m t = true
  · exact ⟨c, by rw [← (ask_in c).1]; exact h⟩
  · rw [(ask_out (by simpa using c)).1] at h; cases h
theorem askL_ne (m t : List UInt8) : askL m t ≠ [] := by unfold askL; simp
theorem ansL_ne (n : Nat) : ansL n ≠ [] := by unfold ansL vL; simp
theorem ans_back {n : Int} {xs : List Fi.Fd} (h : ansE n xs = 0) (r : List UInt8) : spl (headF (ansL n.toNat) xs ++ r) = ⟨0, ansL n.toNat, xs, (headF (ansL n.toNat) xs).length⟩ := by
  obtain ⟨a, b, c⟩ := ans_ok h
  have hl := ansL_len (n := n.toNat) (by omega) (by omega)
  have hf := ansL_free (n := n.toNat) (by omega) (by omega)
  have := reaB_size (n.toNat : Int)
  exact lay_back c (ansL_ne _) (by omega) hf.1 hf.2 r
theorem ask_back {m t : List UInt8} {xs : List Fi.Fd} (h : askE m t xs = 0) (r : List UInt8) : spl (headF (askL m t) xs ++ r) = ⟨0, askL m t, xs, (headF (askL m t) xs).length⟩ := by
  obtain ⟨a, c⟩ := ask_ok h
  obtain ⟨_, hm, _, ht, hl⟩ := askO_is a
  exact lay_back c (askL_ne _ _) hl (askL_free hm ht 13 (by decide) (by decide)) (askL_free hm ht 10 (by decide) (by decide)) r
/-! ### a request that is written is heard -/
theorem frF_none {xs : List Fi.Fd} (h1 : getN (ls nTE) xs = 0) (h2 : getN (ls nCL) xs = 0) : frF xs 4096 = ⟨-1, false, 0⟩ := by
  unfold frF
  rw [h1, h2, if_pos ⟨rfl, rfl⟩]
noncomputable def askQ (m t : List UInt8) (xs : List Fi.Fd) : Rq := ⟨m, t, xs, closesF xs 1⟩
theorem rd_ask {m t : List UInt8} {xs : List Fi.Fd} (h : askE m t xs = 0) (hh : getN (ls nHost) xs = 1) (h1 : getN (ls nTE) xs = 0) (h2 : getN (ls nCL) xs = 0) : rdF (headF (askL m t) xs) = .ok (askQ m t xs) (headF (askL m t) xs).length := by
  have hs := ask_back h []
  rw [List.append_nil] at hs
  obtain ⟨a, c⟩ := ask_ok h
  have hq : headQ ⟨0, askL m t, xs, (headF (askL m t) xs).length⟩ = .ok (askQ m t xs, ⟨-1, false, 0⟩) := by
    unfold headQ
    rw [(askO_is a).1]
    simp only
    rw [hh, frF_none h1 h2, if_neg (by omega)]
    simp only
    rw [if_neg (by omega), if_neg (by omega)]
    rfl
  rw [rd_sized (q := askQ m t xs) (f := ⟨-1, false, 0⟩) (by rw [hs]) (by rw [hs]; exact hq) (by simp), hs]
  simp only
  rw [if_neg (by show ¬ _ < _ + 0; omega)]
  congr 1
theorem rd_nil : rdF [] = .more := rd_short (by decide +kernel)
end Go.Proofs.YtdldoklkenhopaaGreatDoor.Ou
end
