/-
  The document's examples of layer 1: awake answers true.
  Bytes there and back, in plain terms: Unhex of Hex, Hex of Unhex.
  Numbers there and back, in plain terms: a number's digits are read as the number.
  Bodies in chunks as plain lists of bytes: a machine that takes byte by byte; how a body is written. No program is spoken of.
  Requests, plainly: what bytes that have come begin with, and that whatever comes behind doesn't change it.
  Rows of bytes that a struct holds: read as a text, appended to, cut to nothing; a struct of a body in chunks in memory; what turns, what stays.
  A body in chunks that is read, in memory: its struct and its rows; what turns, what stays.
-/
import Derived.Test.YtbngfphiachnoaaGreatDoorSet3
import Derived.Test.YtbngfphiachnoaaGreatDoorSet1
import Derived.Test.YtbngfphiachnoaaGreatDoorSet2
import Derived.Lib.AppendStr
import Derived.Deep.AppendLies
import Derived.Lib.Hide
section
namespace Go.Proofs.YtbngfphiachnoaaGreatDoor.Hx
open Go.RowKit Go.PlainAid
set_option linter.unusedVariables false
set_option maxRecDepth 20000

theorem aw1 (w : World) : Calls Tryz.prog 116 #[.string ⟨#[48, 48, 55]⟩, .int .i64 9] w fun e w' => e = .returned (.tuple #[.int .i64 0, .int .i64 3]) ∧ w = w' :=
  undec_form _ _ w (by decide) (fun h => h.2.1 (by decide) (by decide))
theorem aw2f : DecForm ⟨#[49, 48]⟩ := ⟨by decide, by decide, fun j hj => by
  have : ∀ j : Fin 2, 48 ≤ bt ⟨#[49, 48]⟩ j.val ∧ bt ⟨#[49, 48]⟩ j.val ≤ 57 := by decide
  exact this ⟨j, hj⟩⟩
theorem aw2 (w : World) : Calls Tryz.prog 116 #[.string ⟨#[49, 48]⟩, .int .i64 9] w fun e w' => e = .returned (.tuple #[.int .i64 0, .int .i64 14]) ∧ w = w' :=
  undec_short ⟨#[49, 48]⟩ 9 w aw2f (by decide) (by decide) (by decide)
theorem aw3f : HexForm ⟨#[48, 48, 102, 70]⟩ := ⟨by decide, by decide, fun j hj => by
  have : ∀ j : Fin 4, aok (bt ⟨#[48, 48, 102, 70]⟩ j.val) = true := by decide
  exact this ⟨j, hj⟩⟩
theorem aw3 (w : World) : Calls Tryz.prog 121 #[.string ⟨#[48, 48, 102, 70]⟩, .int .i64 300] w fun e w' => e = .returned (.tuple #[.int .i64 255, .int .i64 0]) ∧ w = w' :=
  unhexnum_yes ⟨#[48, 48, 102, 70]⟩ 300 w aw3f (by decide) (by decide)
theorem aw5d : digL 8 9223372036854775808 = [57, 50, 50, 51, 51, 55, 50, 48, 51, 54, 56, 53, 52, 55, 55, 53, 56, 48, 56] := by
  simp [digL, hd]
end Go.Proofs.YtbngfphiachnoaaGreatDoor.Hx
end

section
namespace Go.Proofs.YtbngfphiachnoaaGreatDoor.Hx
open Go.RowKit Go.PlainAid
set_option linter.unusedVariables false
set_option maxRecDepth 20000

theorem bt_mk (l : List UInt8) (j : Nat) (h : j < l.length) : bt ⟨l.toArray⟩ j = ((l[j]).toNat : Int) := by
  have h' : j < (⟨l.toArray⟩ : ByteArray).size := by simpa [ByteArray.size] using h
  rw [bt_get _ j h']
  rfl
theorem bt_mk? (l : List UInt8) (j : Nat) (c : UInt8) (h : l[j]? = some c) : bt ⟨l.toArray⟩ j = (c.toNat : Int) := by
  obtain ⟨hj, e⟩ := List.getElem?_eq_some_iff.1 h
  rw [bt_mk l j hj, e]
theorem size_mk (l : List UInt8) : (⟨l.toArray⟩ : ByteArray).size = l.length := rfl
theorem mk_data (s : ByteArray) : (⟨s.data.toList.toArray⟩ : ByteArray) = s := by cases s; simp

theorem hexL_hi : ∀ (l : List UInt8) (j : Nat) (c : UInt8), l[j]? = some c → (hexL l)[2 * j]? = some (hd (c.toNat / 16))
  | [], j, c, h => by simp at h
  | a :: l, 0, c, h => by simp at h; subst h; simp [hexL]
  | a :: l, j + 1, c, h => by
    have ih := hexL_hi l j c (by simpa using h)
    rw [show 2 * (j + 1) = 2 * j + 2 by omega]
    simpa [hexL] using ih
theorem hexL_lo : ∀ (l : List UInt8) (j : Nat) (c : UInt8), l[j]? = some c → (hexL l)[2 * j + 1]? = some (hd (c.toNat % 16))
  | [], j, c, h => by simp at h
  | a :: l, 0, c, h => by simp at h; subst h; simp [hexL]
  | a :: l, j + 1, c, h => by
    have ih := hexL_lo l j c (by simpa using h)
    rw [show 2 * (j + 1) + 1 = 2 * j + 1 + 2 by omega]
    simpa [hexL] using ih

theorem sok_hd (n : Nat) (h : n < 16) : sok ((hd n).toNat : Int) = true := by
  have : ∀ m : Fin 16, sok ((hd m.val).toNat : Int) = true := by decide
  exact this ⟨n, h⟩
theorem sv_hd (n : Nat) (h : n < 16) : sv ((hd n).toNat : Int) = n := by
  have : ∀ m : Fin 16, sv ((hd m.val).toNat : Int) = m.val := by decide
  exact this ⟨n, h⟩
theorem hd_sv (c : UInt8) (h : sok (c.toNat : Int) = true) : hd (sv (c.toNat : Int)).toNat = c := by
  apply UInt8.toNat_inj.1
  have hb := sv_bd (c.toNat : Int)
  rw [hd_nat _ (by omega)]
  unfold sok at h
  simp at h
  rcases h with h | h
  · have e : sv (c.toNat : Int) = (c.toNat : Int) - 48 := by unfold sv; rw [if_pos (by omega)]
    rw [e]; split <;> omega
  · have e : sv (c.toNat : Int) = (c.toNat : Int) - 87 := by unfold sv; rw [if_neg (by omega), if_pos (by omega)]
    rw [e]; split <;> omega

theorem hexL_form (l : List UInt8) : UnForm ⟨(hexL l).toArray⟩ := by
  refine ⟨by rw [size_mk, hexL_len]; omega, fun j hj => ?_⟩
  rw [size_mk, hexL_len] at hj
  have hlt : j / 2 < l.length := by omega
  have hc : l[j / 2]? = some l[j / 2] := List.getElem?_eq_getElem hlt
  have hb := (l[j / 2]).toNat_lt
  by_cases e : j % 2 = 0
  · have := hexL_hi l (j / 2) _ hc
    rw [show 2 * (j / 2) = j by omega] at this
    rw [bt_mk? _ _ _ this]; exact sok_hd _ (by omega)
  · have := hexL_lo l (j / 2) _ hc
    rw [show 2 * (j / 2) + 1 = j by omega] at this
    rw [bt_mk? _ _ _ this]; exact sok_hd _ (by omega)
theorem unTo_hexL (l : List UInt8) : ∀ k, k ≤ l.length → unTo ⟨(hexL l).toArray⟩ k = l.take k
  | 0, _ => by simp [unTo]
  | k + 1, hk => by
    have hc : l[k]? = some l[k] := List.getElem?_eq_getElem (by omega)
    have hb := (l[k]).toNat_lt
    rw [unTo, unTo_hexL l k (by omega), List.take_succ_eq_append_getElem (by omega)]
    congr 2
    unfold pair
    rw [bt_mk? _ _ _ (hexL_hi l k _ hc), bt_mk? _ _ _ (hexL_lo l k _ hc), sv_hd _ (by omega), sv_hd _ (by omega)]
    apply UInt8.toNat_inj.1
    rw [UInt8.toNat_ofNat']
    omega
theorem unTo_back (l : List UInt8) : unTo ⟨(hexL l).toArray⟩ ((⟨(hexL l).toArray⟩ : ByteArray).size / 2) = l := by
  rw [size_mk, hexL_len, unTo_hexL l _ (by omega)]
  exact List.take_of_length_le (by omega)

theorem hexL_unTo (s : ByteArray) : ∀ k, 2 * k ≤ s.size → AllSm s (2 * k) → hexL (unTo s k) = s.data.toList.take (2 * k)
  | 0, _, _ => by simp [unTo, hexL]
  | k + 1, hk, ha => by
    have ih := hexL_unTo s k (by omega) (fun j hj => ha j (by omega))
    have h0 := ha (2 * k) (by omega)
    have h1 := ha (2 * k + 1) (by omega)
    rw [unTo, hexL_append, ih, show 2 * (k + 1) = 2 * k + 1 + 1 by omega, take_snoc s (2 * k + 1) (by omega), take_snoc s (2 * k) (by omega), List.append_assoc]
    congr 1
    have hp := pair_nat s k
    have b0 := sv_bd (bt s (2 * k))
    have b1 := sv_bd (bt s (2 * k + 1))
    simp only [hexL]
    rw [show (pair s k).toNat / 16 = (sv (bt s (2 * k))).toNat by omega, show (pair s k).toNat % 16 = (sv (bt s (2 * k + 1))).toNat by omega]
    rw [bt_get s _ (by omega)] at h0 ⊢
    rw [bt_get s _ (by omega)] at h1 ⊢
    rw [hd_sv _ h0, hd_sv _ h1]
    rfl
theorem hexL_back (s : ByteArray) (h : UnForm s) : hexL (unTo s (s.size / 2)) = s.data.toList := by
  have e := h.1
  rw [hexL_unTo s (s.size / 2) (by omega) (fun j hj => h.2 j (by omega))]
  exact List.take_of_length_le (by simp; omega)
end Go.Proofs.YtbngfphiachnoaaGreatDoor.Hx
end

section
namespace Go.Proofs.YtbngfphiachnoaaGreatDoor.Hx
open Go.RowKit Go.PlainAid
set_option linter.unusedVariables false
set_option maxRecDepth 20000

theorem digL_ne (b n : Nat) : 0 < (digL b n).length := by
  rw [digL]; split <;> simp
theorem digL_len (b : Nat) : ∀ k n, n < (b + 2) ^ (k + 1) → (digL b n).length ≤ k + 1
  | 0, n, h => by rw [digL_small b n (by simpa using h)]; simp
  | k + 1, n, h => by
    by_cases c : n < b + 2
    · rw [digL_small b n c]; simp
    · rw [digL_great b n c]
      have := digL_len b k (n / (b + 2)) (by rw [Nat.div_lt_iff_lt_mul (by omega), ← Nat.pow_succ]; exact h)
      simp; omega
theorem digL_mem (b n : Nat) : ∀ c ∈ digL b n, ∃ d, d < b + 2 ∧ c = hd d := by
  induction n using Nat.strongRecOn with
  | _ n ih =>
    by_cases c : n < b + 2
    · rw [digL_small b n c]; intro x hx; simp at hx; exact ⟨n, c, hx⟩
    · rw [digL_great b n c]
      intro x hx
      rcases List.mem_append.1 hx with h | h
      · exact ih _ (Nat.div_lt_self (by omega) (by omega)) x h
      · simp at h; exact ⟨n % (b + 2), Nat.mod_lt _ (by omega), h⟩
theorem digL_first (b n : Nat) (h : 0 < n) : ∃ d r, 0 < d ∧ d < b + 2 ∧ digL b n = hd d :: r := by
  induction n using Nat.strongRecOn with
  | _ n ih =>
    by_cases c : n < b + 2
    · exact ⟨n, [], h, c, digL_small b n c⟩
    · obtain ⟨d, r, h0, h1, e⟩ := ih (n / (b + 2)) (Nat.div_lt_self (by omega) (by omega)) (Nat.div_pos (by omega) (by omega))
      exact ⟨d, r ++ [hd (n % (b + 2))], h0, h1, by rw [digL_great b n c, e]; rfl⟩

theorem bt_pre (l r : List UInt8) (j : Nat) (h : j < l.length) : bt ⟨(l ++ r).toArray⟩ j = bt ⟨l.toArray⟩ j := by
  rw [bt_mk _ _ (by simp; omega), bt_mk _ _ h, List.getElem_append_left h]
theorem bt_last (l : List UInt8) (c : UInt8) : bt ⟨(l ++ [c]).toArray⟩ l.length = (c.toNat : Int) := by
  rw [bt_mk _ _ (by simp)]; simp
theorem decTo_pre (l r : List UInt8) : ∀ k, k ≤ l.length → decTo ⟨(l ++ r).toArray⟩ k = decTo ⟨l.toArray⟩ k
  | 0, _ => rfl
  | k + 1, h => by rw [decTo, decTo, decTo_pre l r k (by omega), bt_pre l r k (by omega)]
theorem hexTo_pre (l r : List UInt8) : ∀ k, k ≤ l.length → hexTo ⟨(l ++ r).toArray⟩ k = hexTo ⟨l.toArray⟩ k
  | 0, _ => rfl
  | k + 1, h => by rw [hexTo, hexTo, hexTo_pre l r k (by omega), bt_pre l r k (by omega)]

theorem dec_val (n : Nat) : decTo ⟨(digL 8 n).toArray⟩ (digL 8 n).length = n := by
  induction n using Nat.strongRecOn with
  | _ n ih =>
    by_cases c : n < 8 + 2
    · rw [digL_small 8 n c]
      simp only [List.length_singleton, decTo]
      rw [bt_mk [hd n] 0 (by simp)]
      have := hd_nat n (by omega)
      simp [this]; rw [if_pos (by omega)]; omega
    · rw [digL_great 8 n c, List.length_append, List.length_singleton, decTo, decTo_pre _ _ _ (Nat.le_refl _), bt_last, ih _ (Nat.div_lt_self (by omega) (by omega)), hd_nat _ (by omega), if_pos (by omega)]
      omega
theorem av_hd (n : Nat) (h : n < 16) : av ((hd n).toNat : Int) = n := by
  have : ∀ m : Fin 16, av ((hd m.val).toNat : Int) = m.val := by decide
  exact this ⟨n, h⟩
theorem aok_hd (n : Nat) (h : n < 16) : aok ((hd n).toNat : Int) = true := by
  have : ∀ m : Fin 16, aok ((hd m.val).toNat : Int) = true := by decide
  exact this ⟨n, h⟩
theorem hex_val (n : Nat) : hexTo ⟨(digL 14 n).toArray⟩ (digL 14 n).length = n := by
  induction n using Nat.strongRecOn with
  | _ n ih =>
    by_cases c : n < 14 + 2
    · rw [digL_small 14 n c]
      simp only [List.length_singleton, hexTo]
      rw [bt_mk [hd n] 0 (by simp)]
      have := av_hd n (by omega)
      simpa using this
    · rw [digL_great 14 n c, List.length_append, List.length_singleton, hexTo, hexTo_pre _ _ _ (Nat.le_refl _), bt_last, ih _ (Nat.div_lt_self (by omega) (by omega)), av_hd _ (by omega)]
      omega

theorem dec_form (n : Nat) : DecForm ⟨(digL 8 n).toArray⟩ := by
  refine ⟨digL_ne 8 n, fun h1 => ?_, fun j hj => ?_⟩
  · rw [size_mk] at h1
    have hn : 0 < n := by
      rcases Nat.eq_zero_or_pos n with e | e
      · subst e; rw [digL_small 8 0 (by omega)] at h1; simp at h1
      · exact e
    obtain ⟨d, r, h0, hd1, e⟩ := digL_first 8 n hn
    rw [e, bt_mk _ 0 (by simp)]
    have := hd_nat d (by omega)
    simp [this]; rw [if_pos (by omega)]; omega
  · rw [size_mk] at hj
    rw [bt_mk _ _ hj]
    obtain ⟨d, h0, e⟩ := digL_mem 8 n _ (List.getElem_mem hj)
    rw [e, hd_nat d (by omega), if_pos (by omega)]
    omega
theorem hex_form (n : Nat) (h : (n : Int) ≤ 9223372036854775807) : HexForm ⟨(digL 14 n).toArray⟩ := by
  refine ⟨digL_ne 14 n, ?_, fun j hj => ?_⟩
  · rw [size_mk]
    exact digL_len 14 15 n (by have : (14 + 2) ^ (15 + 1) = 18446744073709551616 := by decide
                               omega)
  · rw [size_mk] at hj
    rw [bt_mk _ _ hj]
    obtain ⟨d, h0, e⟩ := digL_mem 14 n _ (List.getElem_mem hj)
    rw [e]; exact aok_hd d (by omega)
theorem dec_len (n : Nat) (h : (n : Int) ≤ 9223372036854775807) : (digL 8 n).length ≤ 19 :=
  digL_len 8 18 n (by have : (8 + 2) ^ (18 + 1) = 10000000000000000000 := by decide
                      omega)

theorem dec_inj (a b : Nat) : (digL 8 a == digL 8 b) = ((a : Int) == (b : Int)) := by
  by_cases e : a = b
  · subst e; simp
  · have h : digL 8 a ≠ digL 8 b := fun h => e (by have h1 := dec_val a; rw [h, dec_val b] at h1; omega)
    rw [beq_eq_false_iff_ne.2 h, beq_eq_false_iff_ne.2 (by omega)]
theorem hex_inj (a b : Nat) : (digL 14 a == digL 14 b) = ((a : Int) == (b : Int)) := by
  by_cases e : a = b
  · subst e; simp
  · have h : digL 14 a ≠ digL 14 b := fun h => e (by have h1 := hex_val a; rw [h, hex_val b] at h1; omega)
    rw [beq_eq_false_iff_ne.2 h, beq_eq_false_iff_ne.2 (by omega)]

theorem undec_digits (n : Nat) (m : Int) (w : World) (h : (n : Int) ≤ 9223372036854775807) (h2 : -9223372036854775808 ≤ m) (h3 : m ≤ 9223372036854775807) :
    Calls Tryz.prog 116 #[.string ⟨(digL 8 n).toArray⟩, .int .i64 m] w fun e w' => e = .returned (.tuple #[.int .i64 (amN n m), .int .i64 (amE n m)]) ∧ w = w' := by
  have c := undec_short ⟨(digL 8 n).toArray⟩ m w (dec_form n) (dec_len n h) h2 h3
  rw [size_mk, dec_val] at c
  exact c
theorem unhexnum_digits (n : Nat) (m : Int) (w : World) (h : (n : Int) ≤ 9223372036854775807) (h2 : -9223372036854775808 ≤ m) (h3 : m ≤ 9223372036854775807) :
    Calls Tryz.prog 121 #[.string ⟨(digL 14 n).toArray⟩, .int .i64 m] w fun e w' => e = .returned (.tuple #[.int .i64 (amN n m), .int .i64 (amE n m)]) ∧ w = w' := by
  have c := unhexnum_yes ⟨(digL 14 n).toArray⟩ m w (hex_form n h) h2 h3
  rw [size_mk, hex_val] at c
  exact c
end Go.Proofs.YtbngfphiachnoaaGreatDoor.Hx
end

section
namespace Go.Proofs.YtbngfphiachnoaaGreatDoor.Ch
open Go.RowKit Go.PlainAid
open Hx Fi
set_option linter.unusedVariables false
set_option maxRecDepth 20000
set_option linter.unusedSimpArgs false

/-! ### the number of a chunk's line -/
def hexB (c : UInt8) : Bool := aok (c.toNat : Int)
/-- the digits that a text begins with, and what is behind them -/
def hxP (t : List UInt8) : List UInt8 := t.takeWhile hexB
def hxR (t : List UInt8) : List UInt8 := t.dropWhile hexB
/-- what may stand behind the number -/
def okR : List UInt8 → Bool
  | [] => true
  | c :: r => (c == 32 || c == 9 || c == 59) && isTxt (c :: r)
def numV (t : List UInt8) : Int := hexTo (tx (hxP t)) (hxP t).length
/-- the number of a line, of at most m; what is wrong -/
def numF (t : List UInt8) (m : Int) : Except Int Nat :=
  if okR (hxR t) = true ∧ 0 < (hxP t).length ∧ (hxP t).length ≤ 16 then
    (if 0 ≤ m ∧ numV t ≤ m ∧ numV t ≤ 4611686018427387904 then .ok (numV t).toNat else .error 4)
  else .error 3
theorem numV_nonneg (t : List UInt8) : 0 ≤ numV t := (hexTo_bd _ _).1
theorem numF_ok {t : List UInt8} {m : Int} {n : Nat} (h : numF t m = .ok n) : (n : Int) ≤ m ∧ (n : Int) ≤ 4611686018427387904 := by
  unfold numF at h
  split at h
  · split at h
    · rename_i h1 h2
      have := numV_nonneg t
      injection h with h
      omega
    · cases h
  · cases h
theorem numF_err {t : List UInt8} {m : Int} {e : Int} (h : numF t m = .error e) : e = 3 ∨ e = 4 := by
  unfold numF at h
  split at h
  · split at h
    · cases h
    · injection h with h; exact .inr h.symm
  · injection h with h; exact .inl h.symm
theorem takeW_all {p : UInt8 → Bool} : ∀ {l : List UInt8}, (∀ c ∈ l, p c = true) → l.takeWhile p = l ∧ l.dropWhile p = []
  | [], _ => ⟨rfl, rfl⟩
  | c :: l, h => by
    have ih := takeW_all (l := l) (fun x hx => h x (List.mem_cons_of_mem _ hx))
    have hc := h c (List.mem_cons_self ..)
    simp [List.takeWhile_cons, List.dropWhile_cons, hc, ih.1, ih.2]
theorem numF_digits (n : Nat) (m : Int) (h1 : (n : Int) ≤ 4611686018427387904) : numF (digL 14 n) m = if (n : Int) ≤ m then .ok n else .error 4 := by
  have ha : ∀ c ∈ digL 14 n, hexB c = true := fun c hc => by
    obtain ⟨d, h0, e⟩ := digL_mem 14 n c hc
    rw [e]; exact aok_hd d (by omega)
  obtain ⟨e1, e2⟩ := takeW_all ha
  have hf := hex_form n (by omega)
  have hl : (digL 14 n).length ≤ 16 := by
    have := hf.2.1
    rwa [size_mk] at this
  have hv : numV (digL 14 n) = n := by
    unfold numV hxP
    rw [e1]
    exact hex_val n
  unfold numF
  rw [hv]
  unfold hxP hxR
  rw [e1, e2, if_pos ⟨rfl, digL_ne 14 n, hl⟩]
  by_cases c : (n : Int) ≤ m
  · rw [if_pos ⟨by omega, c, h1⟩, if_pos c]; rfl
  · rw [if_neg (fun x => c x.2.1), if_neg c]

/-! ### the machine -/
inductive Md where
  | line (acc : List UInt8)
  | data (n : Nat)
  | cr
  | lf
  | trail (acc : List UInt8) (k : Nat)
  | done (rest : List UInt8)
  | err (e : Int)
/-- where it stands; how many bytes of data there were; the data that wasn't taken -/
structure CS where
  md : Md
  n : Nat
  u : List UInt8
/-- behind a chunk's line; acc is what is ahead of its last byte -/
def endL (most : Nat) (n : Nat) (acc : List UInt8) : Md :=
  if acc.getLast? = some 13 then
    match numF acc.dropLast ((most : Int) - (n : Int)) with
    | .error e => .err e
    | .ok 0 => .trail [] 0
    | .ok (k + 1) => .data (k + 1)
  else .err 3
/-- behind a line of the end -/
def endT (k : Nat) (acc : List UInt8) : Md :=
  if acc.getLast? = some 13 then
    (if acc.dropLast = [] then .done []
    else if (parseF acc.dropLast).isSome = true then (if 16 ≤ k then .err 4 else .trail [] (k + 1)) else .err 3)
  else .err 3
def stepB (most : Nat) (s : CS) (b : UInt8) : CS :=
  match s.md with
  | .line acc => if b = 10 then ⟨endL most s.n acc, s.n, s.u⟩ else if 255 ≤ acc.length then ⟨.err 3, s.n, s.u⟩ else ⟨.line (acc ++ [b]), s.n, s.u⟩
  | .data k => ⟨if k ≤ 1 then .cr else .data (k - 1), s.n + 1, s.u ++ [b]⟩
  | .cr => ⟨if b = 13 then .lf else .err 3, s.n, s.u⟩
  | .lf => ⟨if b = 10 then .line [] else .err 3, s.n, s.u⟩
  | .trail acc k => if b = 10 then ⟨endT k acc, s.n, s.u⟩ else if 255 ≤ acc.length then ⟨.err 3, s.n, s.u⟩ else ⟨.trail (acc ++ [b]) k, s.n, s.u⟩
  | .done r => ⟨.done (r ++ [b]), s.n, s.u⟩
  | .err e => s
def run (most : Nat) (s : CS) (l : List UInt8) : CS := l.foldl (stepB most) s
def init : CS := ⟨.line [], 0, []⟩
section
variable {most : Nat}
theorem run_nil (s : CS) : run most s [] = s := rfl
theorem run_cons (s : CS) (b : UInt8) (l : List UInt8) : run most s (b :: l) = run most (stepB most s b) l := rfl
theorem run_append (s : CS) (l r : List UInt8) : run most s (l ++ r) = run most (run most s l) r := List.foldl_append
theorem run_err (e : Int) (n : Nat) (u : List UInt8) : ∀ l, run most ⟨.err e, n, u⟩ l = ⟨.err e, n, u⟩
  | [] => rfl
  | b :: l => by rw [run_cons]; exact run_err e n u l
theorem run_done (n : Nat) (u : List UInt8) : ∀ (l r : List UInt8), run most ⟨.done r, n, u⟩ l = ⟨.done (r ++ l), n, u⟩
  | [], r => by rw [run_nil, List.append_nil]
  | b :: l, r => by
    rw [run_cons]
    show run most ⟨.done (r ++ [b]), n, u⟩ l = _
    rw [run_done n u l, List.append_assoc]; rfl
/-- a line under way -/
theorem run_line (n : Nat) (u : List UInt8) : ∀ (l acc : List UInt8), (10 : UInt8) ∉ l → acc.length + l.length ≤ 255 → run most ⟨.line acc, n, u⟩ l = ⟨.line (acc ++ l), n, u⟩
  | [], acc, _, _ => by rw [run_nil, List.append_nil]
  | b :: l, acc, h, hl => by
    simp only [List.length_cons, List.mem_cons, not_or] at h hl
    rw [run_cons]
    have e : stepB most ⟨.line acc, n, u⟩ b = ⟨.line (acc ++ [b]), n, u⟩ := by
      show (if b = 10 then _ else if 255 ≤ acc.length then _ else _) = _
      rw [if_neg (fun x => h.1 x.symm), if_neg (by omega)]
    rw [e, run_line n u l _ h.2 (by simp; omega), List.append_assoc]; rfl
theorem run_line_long (n : Nat) (u : List UInt8) : ∀ (l acc : List UInt8), (10 : UInt8) ∉ l.take (256 - acc.length) → acc.length ≤ 255 → 256 ≤ acc.length + l.length → run most ⟨.line acc, n, u⟩ l = ⟨.err 3, n, u⟩
  | [], acc, _, h1, h2 => by simp at h2; omega
  | b :: l, acc, h, h1, h2 => by
    rw [show 256 - acc.length = (255 - acc.length) + 1 by omega, List.take_succ_cons] at h
    simp only [List.length_cons, List.mem_cons, not_or] at h h2
    rw [run_cons]
    by_cases c : 255 ≤ acc.length
    · have e : stepB most ⟨.line acc, n, u⟩ b = ⟨.err 3, n, u⟩ := by
        show (if b = 10 then _ else if 255 ≤ acc.length then _ else _) = _
        rw [if_neg (fun x => h.1 x.symm), if_pos c]
      rw [e, run_err]
    · have e : stepB most ⟨.line acc, n, u⟩ b = ⟨.line (acc ++ [b]), n, u⟩ := by
        show (if b = 10 then _ else if 255 ≤ acc.length then _ else _) = _
        rw [if_neg (fun x => h.1 x.symm), if_neg c]
      rw [e]
      exact run_line_long n u l _ (by rw [List.length_append, List.length_singleton, show 256 - (acc.length + 1) = 255 - acc.length by omega]; exact h.2) (by simp; omega) (by simp; omega)
theorem run_line_end (n : Nat) (u l r : List UInt8) (acc : List UInt8) (h : (10 : UInt8) ∉ l) (hl : acc.length + l.length ≤ 255) : run most ⟨.line acc, n, u⟩ (l ++ 10 :: r) = run most ⟨endL most n (acc ++ l), n, u⟩ r := by
  rw [run_append, run_line n u l acc h hl, run_cons]; rfl
theorem run_trail (n : Nat) (u : List UInt8) (k : Nat) : ∀ (l acc : List UInt8), (10 : UInt8) ∉ l → acc.length + l.length ≤ 255 → run most ⟨.trail acc k, n, u⟩ l = ⟨.trail (acc ++ l) k, n, u⟩
  | [], acc, _, _ => by rw [run_nil, List.append_nil]
  | b :: l, acc, h, hl => by
    simp only [List.length_cons, List.mem_cons, not_or] at h hl
    rw [run_cons]
    have e : stepB most ⟨.trail acc k, n, u⟩ b = ⟨.trail (acc ++ [b]) k, n, u⟩ := by
      show (if b = 10 then _ else if 255 ≤ acc.length then _ else _) = _
      rw [if_neg (fun x => h.1 x.symm), if_neg (by omega)]
    rw [e, run_trail n u k l _ h.2 (by simp; omega), List.append_assoc]; rfl
theorem run_trail_long (n : Nat) (u : List UInt8) (k : Nat) : ∀ (l acc : List UInt8), (10 : UInt8) ∉ l.take (256 - acc.length) → acc.length ≤ 255 → 256 ≤ acc.length + l.length → run most ⟨.trail acc k, n, u⟩ l = ⟨.err 3, n, u⟩
  | [], acc, _, h1, h2 => by simp at h2; omega
  | b :: l, acc, h, h1, h2 => by
    rw [show 256 - acc.length = (255 - acc.length) + 1 by omega, List.take_succ_cons] at h
    simp only [List.length_cons, List.mem_cons, not_or] at h h2
    rw [run_cons]
    by_cases c : 255 ≤ acc.length
    · have e : stepB most ⟨.trail acc k, n, u⟩ b = ⟨.err 3, n, u⟩ := by
        show (if b = 10 then _ else if 255 ≤ acc.length then _ else _) = _
        rw [if_neg (fun x => h.1 x.symm), if_pos c]
      rw [e, run_err]
    · have e : stepB most ⟨.trail acc k, n, u⟩ b = ⟨.trail (acc ++ [b]) k, n, u⟩ := by
        show (if b = 10 then _ else if 255 ≤ acc.length then _ else _) = _
        rw [if_neg (fun x => h.1 x.symm), if_neg c]
      rw [e]
      exact run_trail_long n u k l _ (by rw [List.length_append, List.length_singleton, show 256 - (acc.length + 1) = 255 - acc.length by omega]; exact h.2) (by simp; omega) (by simp; omega)
theorem run_trail_end (n : Nat) (u l r : List UInt8) (k : Nat) (acc : List UInt8) (h : (10 : UInt8) ∉ l) (hl : acc.length + l.length ≤ 255) : run most ⟨.trail acc k, n, u⟩ (l ++ 10 :: r) = run most ⟨endT k (acc ++ l), n, u⟩ r := by
  rw [run_append, run_trail n u k l acc h hl, run_cons]; rfl
/-- data under way -/
theorem run_data (n : Nat) (u : List UInt8) : ∀ (l : List UInt8) (n : Nat) (u : List UInt8) (k : Nat), l.length < k → run most ⟨.data k, n, u⟩ l = ⟨.data (k - l.length), n + l.length, u ++ l⟩
  | [], n, u, k, h => by rw [run_nil, List.append_nil]; rfl
  | b :: l, n, u, k, h => by
    simp only [List.length_cons] at h
    rw [run_cons]
    have e : stepB most ⟨.data k, n, u⟩ b = ⟨.data (k - 1), n + 1, u ++ [b]⟩ := by
      show (⟨if k ≤ 1 then .cr else .data (k - 1), n + 1, u ++ [b]⟩ : CS) = _
      rw [if_neg (by omega)]
    rw [e, run_data n u l (n + 1) _ (k - 1) (by omega), List.append_assoc, List.length_cons, show k - 1 - l.length = k - (l.length + 1) by omega, show n + 1 + l.length = n + (l.length + 1) by omega]
    rfl
theorem run_data_all (l : List UInt8) (n : Nat) (u : List UInt8) (k : Nat) (h : l.length = k) (h0 : 0 < k) : run most ⟨.data k, n, u⟩ l = ⟨.cr, n + k, u ++ l⟩ := by
  obtain ⟨m, c, rfl⟩ : ∃ m c, l = m ++ [c] := ⟨l.dropLast, l.getLast (by intro e; subst e; simp at h; omega), (List.dropLast_concat_getLast _).symm⟩
  simp at h
  rw [run_append, run_data n u m n u k (by omega), run_cons, run_nil]
  show (⟨if k - m.length ≤ 1 then .cr else .data (k - m.length - 1), n + m.length + 1, u ++ m ++ [c]⟩ : CS) = _
  rw [if_pos (by omega), List.append_assoc, show n + m.length + 1 = n + k by omega]
/-- what was taken doesn't matter -/
theorem step_shift (md : Md) (n : Nat) (u v : List UInt8) (b : UInt8) : stepB most ⟨md, n, u ++ v⟩ b = ⟨(stepB most ⟨md, n, v⟩ b).md, (stepB most ⟨md, n, v⟩ b).n, u ++ (stepB most ⟨md, n, v⟩ b).u⟩ := by
  cases md <;> unfold stepB <;> simp only
  · split
    · rfl
    · split <;> rfl
  · rw [List.append_assoc]
  · split
    · rfl
    · split <;> rfl
theorem run_shift (u : List UInt8) : ∀ (l : List UInt8) (s : CS), run most ⟨s.md, s.n, u ++ s.u⟩ l = ⟨(run most s l).md, (run most s l).n, u ++ (run most s l).u⟩
  | [], s => rfl
  | b :: l, s => by
    rw [run_cons, run_cons, step_shift]
    exact run_shift u l (stepB most s b)
end

/-! ### lines of what has come -/
/-- the line that a text begins with, without 0A: within 256 bytes -/
def lineC (l : List UInt8) : Option (List UInt8) := (cutB 10 (l.take 256)).map Prod.fst
theorem lineC_some {l t : List UInt8} (h : lineC l = some t) : l = t ++ 10 :: l.drop (t.length + 1) ∧ (10 : UInt8) ∉ t ∧ t.length ≤ 255 ∧ t.length + 1 ≤ l.length := by
  unfold lineC at h
  cases hq : cutB 10 (l.take 256) with
  | none => rw [hq] at h; cases h
  | some p =>
    obtain ⟨x, y⟩ := p
    rw [hq] at h
    have e : x = t := by simpa using h
    subst e
    obtain ⟨e, hx⟩ := cutB_some hq
    have hlen := congrArg List.length e
    rw [List.length_take, List.length_append, List.length_cons] at hlen
    have e2 : l = x ++ 10 :: (y ++ l.drop 256) := by
      have : l = l.take 256 ++ l.drop 256 := (List.take_append_drop _ _).symm
      rw [e] at this
      simpa using this
    refine ⟨?_, hx, by omega, by omega⟩
    have e3 : l.drop (x.length + 1) = y ++ l.drop 256 := by
      have := congrArg (List.drop (x.length + 1)) e2
      rw [this, show x ++ 10 :: (y ++ l.drop 256) = (x ++ [10]) ++ (y ++ l.drop 256) by simp, List.drop_left' (by simp)]
    rw [e3]; exact e2
theorem lineC_none {l : List UInt8} (h : lineC l = none) : (10 : UInt8) ∉ l.take 256 := by
  unfold lineC at h
  exact cutB_none.1 (by simpa using h)
theorem read_line {most n : Nat} {u l t : List UInt8} (h : lineC l = some t) : run most ⟨.line [], n, u⟩ l = run most ⟨endL most n t, n, u⟩ (l.drop (t.length + 1)) := by
  obtain ⟨e, h1, h2, _⟩ := lineC_some h
  have := run_line_end (most := most) n u t (l.drop (t.length + 1)) [] h1 (by simpa using h2)
  rw [← e] at this
  simpa using this
theorem read_line_wait {most n : Nat} {u l : List UInt8} (h : lineC l = none) (hl : l.length < 256) : run most ⟨.line [], n, u⟩ l = ⟨.line l, n, u⟩ := by
  have h1 := lineC_none h
  rw [List.take_of_length_le (by omega)] at h1
  have := run_line (most := most) n u l [] h1 (by simp; omega)
  simpa using this
theorem read_line_bad {most n : Nat} {u l : List UInt8} (h : lineC l = none) (hl : 256 ≤ l.length) : run most ⟨.line [], n, u⟩ l = ⟨.err 3, n, u⟩ :=
  run_line_long n u l [] (lineC_none h) (by simp) (by simpa using hl)
theorem read_trail {most n k : Nat} {u l t : List UInt8} (h : lineC l = some t) : run most ⟨.trail [] k, n, u⟩ l = run most ⟨endT k t, n, u⟩ (l.drop (t.length + 1)) := by
  obtain ⟨e, h1, h2, _⟩ := lineC_some h
  have := run_trail_end (most := most) n u t (l.drop (t.length + 1)) k [] h1 (by simpa using h2)
  rw [← e] at this
  simpa using this
theorem read_trail_wait {most n k : Nat} {u l : List UInt8} (h : lineC l = none) (hl : l.length < 256) : run most ⟨.trail [] k, n, u⟩ l = ⟨.trail l k, n, u⟩ := by
  have h1 := lineC_none h
  rw [List.take_of_length_le (by omega)] at h1
  have := run_trail (most := most) n u k l [] h1 (by simp; omega)
  simpa using this
theorem read_trail_bad {most n k : Nat} {u l : List UInt8} (h : lineC l = none) (hl : 256 ≤ l.length) : run most ⟨.trail [] k, n, u⟩ l = ⟨.err 3, n, u⟩ :=
  run_trail_long n u k l [] (lineC_none h) (by simp) (by simpa using hl)

/-! ### what bytes come to -/
def Md.isDone : Md → Bool
  | .done _ => true
  | _ => false
def Md.rest : Md → List UInt8
  | .done r => r
  | _ => []
def Md.error : Md → Int
  | .err e => e
  | _ => 0

/-! ### bounds -/
/-- how many bytes there may be, with those that are told of -/
def Md.ahead : Md → Nat
  | .data k => k
  | _ => 0
def Md.Good : Md → Prop
  | .data k => 0 < k
  | .err e => e = 3 ∨ e = 4
  | _ => True
structure CS.Ok (most : Nat) (s : CS) : Prop where
  n : s.n + s.md.ahead ≤ most
  u : s.u.length ≤ s.n
  g : s.md.Good
theorem endL_ok {most n : Nat} (acc : List UInt8) (h : n ≤ most) : n + (endL most n acc).ahead ≤ most ∧ (endL most n acc).Good := by
  unfold endL
  split
  · cases hq : numF acc.dropLast ((most : Int) - (n : Int)) with
    | error e => exact ⟨h, numF_err hq⟩
    | ok k =>
      have := (numF_ok hq).1
      cases k with
      | zero => exact ⟨h, trivial⟩
      | succ k => exact ⟨by show n + (k + 1) ≤ most; omega, Nat.succ_pos k⟩
  · exact ⟨h, .inl rfl⟩
theorem endT_ok {most n : Nat} (k : Nat) (acc : List UInt8) (h : n ≤ most) : n + (endT k acc).ahead ≤ most ∧ (endT k acc).Good := by
  unfold endT
  split
  · split
    · exact ⟨h, trivial⟩
    · split
      · split
        · exact ⟨h, .inr rfl⟩
        · exact ⟨h, trivial⟩
      · exact ⟨h, .inl rfl⟩
  · exact ⟨h, .inl rfl⟩
theorem CS.Ok.step {most : Nat} {s : CS} (h : s.Ok most) (b : UInt8) : (stepB most s b).Ok most := by
  obtain ⟨md, n, u⟩ := s
  obtain ⟨h1, h2, h3⟩ := h
  simp only at h1 h2 h3
  cases md with
  | line acc =>
    unfold stepB; simp only
    split
    · have := endL_ok (most := most) (n := n) acc (by simpa [Md.ahead] using h1)
      exact ⟨this.1, h2, this.2⟩
    · split
      · exact ⟨h1, h2, .inl rfl⟩
      · exact ⟨h1, h2, trivial⟩
  | data k =>
    have h1' : n + k ≤ most := h1
    have h3' : 0 < k := h3
    unfold stepB; simp only
    by_cases c : k ≤ 1
    · rw [if_pos c]
      exact ⟨by show n + 1 + 0 ≤ most; omega, by simp; omega, trivial⟩
    · rw [if_neg c]
      exact ⟨by show n + 1 + (k - 1) ≤ most; omega, by simp; omega, by show 0 < k - 1; omega⟩
  | cr =>
    unfold stepB; simp only
    split
    · exact ⟨h1, h2, trivial⟩
    · exact ⟨h1, h2, .inl rfl⟩
  | lf =>
    unfold stepB; simp only
    split
    · exact ⟨h1, h2, trivial⟩
    · exact ⟨h1, h2, .inl rfl⟩
  | trail acc k =>
    unfold stepB; simp only
    split
    · have := endT_ok (most := most) (n := n) k acc (by simpa [Md.ahead] using h1)
      exact ⟨this.1, h2, this.2⟩
    · split
      · exact ⟨h1, h2, .inl rfl⟩
      · exact ⟨h1, h2, trivial⟩
  | done r =>
    unfold stepB; simp only
    exact ⟨h1, h2, trivial⟩
  | err e =>
    unfold stepB; simp only
    exact ⟨h1, h2, h3⟩
theorem CS.Ok.run {most : Nat} : ∀ {l : List UInt8} {s : CS}, s.Ok most → (Ch.run most s l).Ok most
  | [], s, h => h
  | b :: l, s, h => by
    rw [run_cons]
    exact CS.Ok.run (h.step b)
theorem init_ok (most : Nat) : init.Ok most := ⟨Nat.zero_le _, Nat.le_refl _, trivial⟩
/-- what is read only grows; what is behind an error or the end stays -/
theorem run_grows {most : Nat} : ∀ (l : List UInt8) (s : CS), ∃ v, (run most s l).u = s.u ++ v ∧ (run most s l).n = s.n + v.length
  | [], s => ⟨[], by rw [run_nil, List.append_nil], rfl⟩
  | b :: l, s => by
    obtain ⟨v, h1, h2⟩ := run_grows (most := most) l (stepB most s b)
    have hs : ∃ x : List UInt8, (stepB most s b).u = s.u ++ x ∧ (stepB most s b).n = s.n + x.length := by
      obtain ⟨md, n, u⟩ := s
      cases md with
      | data k => exact ⟨[b], rfl, rfl⟩
      | line acc =>
        refine ⟨[], ?_⟩
        unfold stepB; simp only
        split
        · exact ⟨by simp, rfl⟩
        · split <;> exact ⟨by simp, rfl⟩
      | trail acc k =>
        refine ⟨[], ?_⟩
        unfold stepB; simp only
        split
        · exact ⟨by simp, rfl⟩
        · split <;> exact ⟨by simp, rfl⟩
      | cr => exact ⟨[], by simp [stepB], rfl⟩
      | lf => exact ⟨[], by simp [stepB], rfl⟩
      | done r => exact ⟨[], by simp [stepB], rfl⟩
      | err e => exact ⟨[], by simp [stepB], rfl⟩
    obtain ⟨x, e1, e2⟩ := hs
    refine ⟨x ++ v, ?_, ?_⟩
    · rw [run_cons, h1, e1, List.append_assoc]
    · rw [run_cons, h2, e2, List.length_append]; omega

/-! ### how a body is written -/
/-- in chunks of by + 1 bytes -/
def wrt (by_ : Nat) (s : List UInt8) : List UInt8 :=
  if h : s = [] then [48, 13, 10, 13, 10]
  else digL 14 (min (by_ + 1) s.length) ++ [13, 10] ++ s.take (by_ + 1) ++ [13, 10] ++ wrt by_ (s.drop (by_ + 1))
termination_by s.length
decreasing_by
  have : 0 < s.length := List.length_pos_iff.2 h
  rw [List.length_drop]; omega
theorem wrt_nil (b : Nat) : wrt b [] = [48, 13, 10, 13, 10] := by rw [wrt, dif_pos rfl]
theorem wrt_more (b : Nat) {s : List UInt8} (h : s ≠ []) : wrt b s = digL 14 (min (b + 1) s.length) ++ [13, 10] ++ s.take (b + 1) ++ [13, 10] ++ wrt b (s.drop (b + 1)) := by
  rw [wrt, dif_neg h]
theorem wrt_great {a b : Nat} {s : List UInt8} (ha : s.length ≤ a + 1) (hb : s.length ≤ b + 1) : wrt a s = wrt b s := by
  by_cases h : s = []
  · subst h; rw [wrt_nil, wrt_nil]
  · rw [wrt_more a h, wrt_more b h, List.drop_of_length_le ha, List.drop_of_length_le hb, List.take_of_length_le ha, List.take_of_length_le hb, wrt_nil, wrt_nil, Nat.min_eq_right ha, Nat.min_eq_right hb]
theorem digL_no10 (n : Nat) : (10 : UInt8) ∉ digL 14 n ∧ (13 : UInt8) ∉ digL 14 n := by
  have : ∀ m : Fin 16, hd m.val ≠ 10 ∧ hd m.val ≠ 13 := by decide
  exact ⟨fun h => by
    obtain ⟨d, h0, e⟩ := digL_mem 14 n _ h
    exact (this ⟨d, h0⟩).1 e.symm, fun h => by
    obtain ⟨d, h0, e⟩ := digL_mem 14 n _ h
    exact (this ⟨d, h0⟩).2 e.symm⟩
theorem read_number {most n k : Nat} (u r : List UInt8) (hk : (k : Int) ≤ 4611686018427387904) : run most ⟨.line [], n, u⟩ (digL 14 k ++ [13, 10] ++ r) = run most ⟨if (k : Int) ≤ (most : Int) - n then (if k = 0 then .trail [] 0 else .data k) else .err 4, n, u⟩ r := by
  have hl : (digL 14 k).length ≤ 16 := digL_len 14 15 k (by
    have : (14 + 2) ^ (15 + 1) = 18446744073709551616 := by decide
    omega)
  have h := run_line_end (most := most) n u (digL 14 k ++ [13]) r [] (by simp [(digL_no10 k).1]) (by simp; omega)
  rw [show digL 14 k ++ [13, 10] ++ r = (digL 14 k ++ [13]) ++ 10 :: r by simp, h]
  congr 2
  unfold endL
  rw [List.nil_append, if_pos (by simp), List.dropLast_concat, numF_digits k _ hk]
  by_cases c : (k : Int) ≤ (most : Int) - n
  · rw [if_pos c, if_pos c]
    cases k with
    | zero => rfl
    | succ k => rw [if_neg (by omega)]
  · rw [if_neg c, if_neg c]
theorem read_chunk {most n : Nat} (u d r : List UInt8) (hd0 : d ≠ []) (hm : n + d.length ≤ most) (hk : (d.length : Int) ≤ 4611686018427387904) : run most ⟨.line [], n, u⟩ (digL 14 d.length ++ [13, 10] ++ d ++ [13, 10] ++ r) = run most ⟨.line [], n + d.length, u ++ d⟩ r := by
  have h0 : 0 < d.length := List.length_pos_iff.2 hd0
  rw [show digL 14 d.length ++ [13, 10] ++ d ++ [13, 10] ++ r = digL 14 d.length ++ [13, 10] ++ (d ++ 13 :: 10 :: r) by simp, read_number u _ hk, if_pos (by omega), if_neg (by omega), run_append, run_data_all d n u d.length rfl h0]
  rfl
theorem read_end {most n : Nat} (u r : List UInt8) (h : n ≤ most) : run most ⟨.line [], n, u⟩ ([48, 13, 10, 13, 10] ++ r) = ⟨.done r, n, u⟩ := by
  have h0 : digL 14 0 = [48] := by rw [digL_small 14 0 (by omega)]; decide
  have e := read_number (most := most) (n := n) (k := 0) u ([13, 10] ++ r) (by omega)
  rw [h0, if_pos (by omega), if_pos rfl] at e
  rw [show ([48, 13, 10, 13, 10] ++ r : List UInt8) = [48] ++ [13, 10] ++ ([13, 10] ++ r) from rfl, e]
  have e2 := run_trail_end (most := most) n u [13] r 0 [] (by decide) (by decide)
  rw [show ([13, 10] ++ r : List UInt8) = [13] ++ 10 :: r from rfl, e2]
  have : endT 0 ([] ++ [13]) = .done [] := by
    unfold endT
    rw [if_pos (by decide), if_pos (by decide)]
  rw [this, run_done]; rfl
theorem read_back (b most : Nat) : ∀ (k : Nat) (s : List UInt8), s.length ≤ k → ∀ (n : Nat) (u r : List UInt8), n + s.length ≤ most → (s.length : Int) ≤ 4611686018427387904 → run most ⟨.line [], n, u⟩ (wrt b s ++ r) = ⟨.done r, n + s.length, u ++ s⟩ := by
  intro k
  induction k with
  | zero =>
    intro s hs n u r hm hk
    have : s = [] := List.eq_nil_of_length_eq_zero (by omega)
    subst this
    rw [wrt_nil, read_end u r (by simpa using hm), List.append_nil]; rfl
  | succ k ih =>
    intro s hs n u r hm hk
    by_cases h : s = []
    · subst h
      rw [wrt_nil, read_end u r (by simpa using hm), List.append_nil]; rfl
    · have h0 : 0 < s.length := List.length_pos_iff.2 h
      have hl : (s.take (b + 1)).length = min (b + 1) s.length := List.length_take
      have hne : s.take (b + 1) ≠ [] := fun e => by rw [e] at hl; simp at hl; omega
      rw [wrt_more b h, ← hl, List.append_assoc, read_chunk u (s.take (b + 1)) _ hne (by omega) (by omega), ih (s.drop (b + 1)) (by rw [List.length_drop]; omega) _ _ r (by rw [List.length_drop, hl]; omega) (by rw [List.length_drop]; omega)]
      rw [List.append_assoc, List.take_append_drop, List.length_drop, hl]
      congr 1; omega
/-- with less than there is room for it is too long -/
theorem read_long (b most : Nat) : ∀ (k : Nat) (s : List UInt8), s.length ≤ k → ∀ (n : Nat) (u r : List UInt8), n ≤ most → most < n + s.length → (s.length : Int) ≤ 4611686018427387904 → ∃ n' u', run most ⟨.line [], n, u⟩ (wrt b s ++ r) = ⟨.err 4, n', u'⟩ := by
  intro k
  induction k with
  | zero => intro s hs n u r hn hm hk; omega
  | succ k ih =>
    intro s hs n u r hn hm hk
    have h : s ≠ [] := fun e => by subst e; simp at hm; omega
    have h0 : 0 < s.length := List.length_pos_iff.2 h
    have hl : (s.take (b + 1)).length = min (b + 1) s.length := List.length_take
    have hne : s.take (b + 1) ≠ [] := fun e => by rw [e] at hl; simp at hl; omega
    rw [wrt_more b h, ← hl, List.append_assoc]
    by_cases c : n + (s.take (b + 1)).length ≤ most
    · rw [read_chunk u (s.take (b + 1)) _ hne c (by omega)]
      exact ih (s.drop (b + 1)) (by rw [List.length_drop]; omega) _ _ r c (by rw [List.length_drop, hl]; omega) (by rw [List.length_drop]; omega)
    · rw [show digL 14 (s.take (b + 1)).length ++ [13, 10] ++ s.take (b + 1) ++ [13, 10] ++ (wrt b (s.drop (b + 1)) ++ r) = digL 14 (s.take (b + 1)).length ++ [13, 10] ++ (s.take (b + 1) ++ [13, 10] ++ (wrt b (s.drop (b + 1)) ++ r)) by simp, read_number u _ (by omega), if_neg (by omega), run_err]
      exact ⟨n, u, rfl⟩
/-- cut off it isn't whole: no error, no end, and data that the body begins with -/
theorem read_part {most : Nat} {p q s : List UInt8} (hq : q ≠ []) (h : run most init (p ++ q) = ⟨.done [], s.length, s⟩) : (∀ e, (run most init p).md ≠ .err e) ∧ (run most init p).md.isDone = false ∧ ∃ v, s = (run most init p).u ++ v := by
  rw [run_append] at h
  obtain ⟨v, h1, h2⟩ := run_grows (most := most) q (run most init p)
  refine ⟨fun e he => ?_, ?_, v, ?_⟩
  · generalize run most init p = x at h he
    obtain ⟨md, n, u⟩ := x
    simp only at he
    subst he
    rw [run_err] at h
    cases h
  · generalize run most init p = x at h
    obtain ⟨md, n, u⟩ := x
    cases md with
    | done r =>
      rw [run_done] at h
      injection h with h _ _
      injection h with h
      exact absurd (List.append_eq_nil_iff.1 h).2 hq
    | _ => rfl
  · rw [h] at h1; exact h1
end Go.Proofs.YtbngfphiachnoaaGreatDoor.Ch
end

section
namespace Go.Proofs.YtbngfphiachnoaaGreatDoor.In
open Go.RowKit Go.PlainAid
open Hx Fi Ch
set_option linter.unusedVariables false
set_option maxRecDepth 20000
set_option linter.unusedSimpArgs false

/-! ### a request line -/
def visB (b : UInt8) : Bool := decide (33 ≤ b ∧ b ≤ 126)
/-- the two digits of a version -/
def verF (v : List UInt8) : Option (UInt8 × UInt8) :=
  if v.length = 8 ∧ v.take 5 = [72, 84, 84, 80, 47] ∧ v.getD 6 0 = 46 ∧ (48 ≤ v.getD 5 0 ∧ v.getD 5 0 ≤ 57) ∧ 48 ≤ v.getD 7 0 ∧ v.getD 7 0 ≤ 57 then some (v.getD 5 0, v.getD 7 0) else none
def lnQ (l : List UInt8) : Except Int (List UInt8 × List UInt8 × Nat) :=
  match cutB 32 l with
  | none => .error 400
  | some (m, r) =>
    if isTok m = true then
      match cutB 32 r with
      | none => .error 400
      | some (t, v) =>
        if t ≠ [] ∧ t.all visB = true then
          match verF v with
          | none => .error 400
          | some (a, b) => if a = 49 ∧ b ≤ 49 then .ok (m, t, b.toNat - 48) else .error 505
        else .error 400
    else .error 400
theorem lnQ_err {l : List UInt8} {st : Int} (h : lnQ l = .error st) : st = 400 ∨ st = 505 := by
  unfold lnQ at h
  split at h
  · injection h with h; exact .inl h.symm
  · split at h
    · split at h
      · injection h with h; exact .inl h.symm
      · split at h
        · split at h
          · injection h with h; exact .inl h.symm
          · split at h
            · cases h
            · injection h with h; exact .inr h.symm
        · injection h with h; exact .inl h.symm
    · injection h with h; exact .inl h.symm

/-! ### a request -/
structure Rq where
  m : List UInt8
  t : List UInt8
  fs : List Fi.Fd
  cl : Bool
inductive Rd where
  | more
  | bad (st : Int)
  | ok (q : Rq) (n : Nat)
def nHost : ByteArray := ⟨#[72, 111, 115, 116]⟩
/-- a head that is whole: the request, how its body is framed; or what is wrong -/
noncomputable def headQ (h : Hd) : Except Int (Rq × Fr) :=
  match lnQ h.start with
  | .error st => .error st
  | .ok (m, t, k) =>
    if 1 < getN (ls nHost) h.list ∨ (getN (ls nHost) h.list = 0 ∧ k = 1) then .error 400
    else if (frF h.list 4096).e = 4 then .error 413
    else if (frF h.list 4096).e ≠ 0 then .error 400
    else .ok (⟨m, t, h.list, closesF h.list k⟩, frF h.list 4096)
theorem headQ_err {h : Hd} {st : Int} (e : headQ h = .error st) : st = 400 ∨ st = 505 ∨ st = 413 := by
  unfold headQ at e
  cases hq : lnQ h.start with
  | error s =>
    rw [hq] at e
    injection e with e
    subst e
    rcases lnQ_err hq with e | e
    · exact .inl e
    · exact .inr (.inl e)
  | ok p =>
    rw [hq] at e
    simp only at e
    split at e
    · injection e with e; exact .inl e.symm
    · split at e
      · injection e with e; exact .inr (.inr e.symm)
      · split at e
        · injection e with e; exact .inl e.symm
        · cases e
/-- a body in chunks, of what has come behind the head -/
def bodyC (q : Rq) (R : CS) (len : Nat) : Rd :=
  if R.md.isDone = true then .ok q (len - R.md.rest.length)
  else if R.md.error = 0 then .more
  else if R.md.error = 4 then .bad 413
  else .bad 400
noncomputable def rdF (l : List UInt8) : Rd :=
  if (spl l).err = 17 then .more
  else if (spl l).err = 4 then .bad 431
  else if (spl l).err ≠ 0 then .bad 400
  else match headQ (spl l) with
    | .error st => .bad st
    | .ok (q, f) =>
      if f.c = true then bodyC q (run 4096 init (l.drop (spl l).n)) l.length
      else if l.length < (spl l).n + f.n.toNat then .more else .ok q ((spl l).n + f.n.toNat)
theorem rd_short {l : List UInt8} (h : (spl l).err = 17) : rdF l = .more := by unfold rdF; rw [if_pos h]
theorem rd_long {l : List UInt8} (h : (spl l).err = 4) : rdF l = .bad 431 := by
  unfold rdF; rw [if_neg (by omega), if_pos h]
theorem rd_form {l : List UInt8} (h : (spl l).err ≠ 17) (h4 : (spl l).err ≠ 4) (h0 : (spl l).err ≠ 0) : rdF l = .bad 400 := by
  unfold rdF; rw [if_neg h, if_neg h4, if_pos h0]
theorem rd_bad {l : List UInt8} {st : Int} (h : (spl l).err = 0) (hq : headQ (spl l) = .error st) : rdF l = .bad st := by
  unfold rdF; rw [if_neg (by omega), if_neg (by omega), if_neg (by omega), hq]
theorem rd_chunks {l : List UInt8} {q : Rq} {f : Fr} (h : (spl l).err = 0) (hq : headQ (spl l) = .ok (q, f)) (hc : f.c = true) : rdF l = bodyC q (run 4096 init (l.drop (spl l).n)) l.length := by
  unfold rdF; rw [if_neg (by omega), if_neg (by omega), if_neg (by omega), hq]
  simp only
  rw [if_pos hc]
theorem rd_sized {l : List UInt8} {q : Rq} {f : Fr} (h : (spl l).err = 0) (hq : headQ (spl l) = .ok (q, f)) (hc : f.c ≠ true) : rdF l = if l.length < (spl l).n + f.n.toNat then .more else .ok q ((spl l).n + f.n.toNat) := by
  unfold rdF; rw [if_neg (by omega), if_neg (by omega), if_neg (by omega), hq]
  simp only
  rw [if_neg hc]
theorem bodyC_stays {q : Rq} {R : CS} {len : Nat} (r : List UInt8) (h : bodyC q R len ≠ .more) : bodyC q (run 4096 R r) (len + r.length) = bodyC q R len := by
  obtain ⟨md, n, u⟩ := R
  cases md with
  | done d =>
    rw [run_done]
    unfold bodyC
    show (if true = true then Rd.ok q (len + r.length - (d ++ r).length) else _) = (if true = true then Rd.ok q (len - d.length) else _)
    rw [if_pos rfl, if_pos rfl, List.length_append]
    congr 1
    omega
  | err e =>
    rw [run_err]
    unfold bodyC
    have e1 : (Md.err e).isDone = false := rfl
    simp only [e1, Bool.false_eq_true, if_false]
  | _ => exact absurd rfl h
/-- whatever comes behind: what is whole or wrong stays -/
theorem rd_stays (l r : List UInt8) (h : rdF l ≠ .more) : rdF (l ++ r) = rdF l := by
  by_cases h17 : (spl l).err = 17
  · exact absurd (rd_short h17) h
  · have hs := spl_more l r h17
    by_cases h4 : (spl l).err = 4
    · rw [rd_long h4, rd_long (by rw [hs]; exact h4)]
    · by_cases h0 : (spl l).err = 0
      · cases hq : headQ (spl l) with
        | error st => rw [rd_bad h0 hq, rd_bad (by rw [hs]; exact h0) (by rw [hs]; exact hq)]
        | ok p =>
          obtain ⟨q, f⟩ := p
          by_cases hc : f.c = true
          · rw [rd_chunks h0 hq hc] at h ⊢
            rw [rd_chunks (by rw [hs]; exact h0) (by rw [hs]; exact hq) hc, hs, List.drop_append_of_le_length (spl_n l), run_append, List.length_append]
            exact bodyC_stays r h
          · rw [rd_sized h0 hq hc] at h ⊢
            rw [rd_sized (by rw [hs]; exact h0) (by rw [hs]; exact hq) hc, hs, List.length_append]
            by_cases hl : l.length < (spl l).n + f.n.toNat
            · rw [if_pos hl] at h; exact absurd rfl h
            · rw [if_neg hl, if_neg (by omega)]
      · rw [rd_form h17 h4 h0, rd_form (by rw [hs]; exact h17) (by rw [hs]; exact h4) (by rw [hs]; exact h0)]
theorem rd_bad_ne {l : List UInt8} {st : Int} (h : rdF l = .bad st) : st ≠ 0 ∧ st ≠ 200 := by
  by_cases h17 : (spl l).err = 17
  · rw [rd_short h17] at h; cases h
  · by_cases h4 : (spl l).err = 4
    · rw [rd_long h4] at h; injection h with h; omega
    · by_cases h0 : (spl l).err = 0
      · cases hq : headQ (spl l) with
        | error s =>
          rw [rd_bad h0 hq] at h
          injection h with h
          have := headQ_err hq
          omega
        | ok p =>
          obtain ⟨q, f⟩ := p
          by_cases hc : f.c = true
          · rw [rd_chunks h0 hq hc] at h
            unfold bodyC at h
            split at h
            · cases h
            · split at h
              · cases h
              · split at h
                · injection h with h; omega
                · injection h with h; omega
          · rw [rd_sized h0 hq hc] at h
            split at h <;> cases h
      · rw [rd_form h17 h4 h0] at h; injection h with h; omega
/-! ### a whole head has bytes -/
theorem fld_pos (full : Bool) : ∀ (k : Nat) (l : List UInt8), l.length ≤ k → ∀ (at_ : Nat) (acc : List Fi.Fd), (fldF full l at_ acc).err = 0 → at_ < (fldF full l at_ acc).n := by
  intro k
  induction k with
  | zero =>
    intro l hl at_ acc h
    have : l = [] := List.eq_nil_of_length_eq_zero (by omega)
    subst this
    rw [fldF_err at_ acc lineF_nil] at h
    cases full <;> simp at h
  | succ k ih =>
    intro l hl at_ acc h
    cases hq : lineF full l with
    | error e =>
      rw [fldF_err at_ acc hq] at h
      exfalso
      have h : e = 0 := h
      unfold lineF at hq
      split at hq
      · injection hq with hq
        split at hq <;> omega
      · split at hq
        · cases hq
        · injection hq with hq; omega
    | ok p =>
      obtain ⟨x, r⟩ := p
      have hlen := lineF_len hq
      by_cases hx : x = []
      · subst hx
        rw [fldF_end at_ acc hq]
        show at_ < at_ + 2
        omega
      · cases hp : parseF x with
        | none => rw [fldF_form at_ acc hq hx hp] at h; cases h
        | some f =>
          by_cases hl32 : acc.length = 32
          · rw [fldF_long at_ acc hq hx hp hl32] at h; cases h
          · rw [fldF_step at_ acc hq hx hp hl32] at h ⊢
            have := ih r (by omega) (at_ + x.length + 2) (acc ++ [f]) h
            omega
theorem spl_pos (l : List UInt8) (h : (spl l).err = 0) : 0 < (spl l).n := by
  unfold spl at h ⊢
  cases hq : lineF (decide (4096 ≤ l.length)) (l.take 4096) with
  | error e =>
    rw [hq] at h
    exfalso
    have h : e = 0 := h
    unfold lineF at hq
    split at hq
    · injection hq with hq
      split at hq <;> omega
    · split at hq
      · cases hq
      · injection hq with hq; omega
  | ok p =>
    obtain ⟨x, r⟩ := p
    rw [hq] at h
    simp only at h ⊢
    by_cases hx : x = []
    · rw [if_pos hx] at h; cases h
    · rw [if_neg hx] at h ⊢
      by_cases hl : 1024 < x.length
      · rw [if_pos hl] at h; cases h
      · rw [if_neg hl] at h ⊢
        have := fld_pos _ r.length r (Nat.le_refl _) (x.length + 2) [] h
        show 0 < (fldF (decide (4096 ≤ l.length)) r (x.length + 2) []).n
        omega
/-- what is behind a body is behind the head -/
theorem rest_le (M : Nat) : ∀ (l : List UInt8) (s : CS), (run M s l).md.rest.length ≤ s.md.rest.length + l.length
  | [], s => by rw [run_nil]; exact Nat.le_add_right _ _
  | b :: l, s => by
    have ih := rest_le M l (stepB M s b)
    rw [run_cons]
    have hs : (stepB M s b).md.rest.length ≤ s.md.rest.length + 1 := by
      obtain ⟨md, n, u⟩ := s
      cases md with
      | done r => simp [stepB, Md.rest]
      | line a =>
        unfold stepB
        simp only
        split
        · unfold endL
          split
          · split <;> simp [Md.rest]
          · simp [Md.rest]
        · split <;> simp [Md.rest]
      | data k => unfold stepB; simp only; split <;> simp [Md.rest]
      | cr => unfold stepB; simp only; split <;> simp [Md.rest]
      | lf => unfold stepB; simp only; split <;> simp [Md.rest]
      | trail a k =>
        unfold stepB
        simp only
        split
        · unfold endT
          split
          · split
            · simp [Md.rest]
            · split
              · split <;> simp [Md.rest]
              · simp [Md.rest]
          · simp [Md.rest]
        · split <;> simp [Md.rest]
      | err e => simp [stepB]
    simp only [List.length_cons]
    omega
theorem rd_pos {l : List UInt8} {q : Rq} {n : Nat} (h : rdF l = .ok q n) : 0 < n ∧ n ≤ l.length := by
  by_cases h17 : (spl l).err = 17
  · rw [rd_short h17] at h; cases h
  · by_cases h4 : (spl l).err = 4
    · rw [rd_long h4] at h; cases h
    · by_cases h0 : (spl l).err = 0
      · have hp := spl_pos l h0
        have hn := spl_n l
        cases hq : headQ (spl l) with
        | error s => rw [rd_bad h0 hq] at h; cases h
        | ok p =>
          obtain ⟨q', f⟩ := p
          by_cases hc : f.c = true
          · rw [rd_chunks h0 hq hc] at h
            have hr := rest_le 4096 (l.drop (spl l).n) init
            rw [List.length_drop] at hr
            have hi : init.md.rest.length = 0 := rfl
            unfold bodyC at h
            split at h
            · injection h with _ h
              omega
            · split at h
              · cases h
              · split at h <;> cases h
          · rw [rd_sized h0 hq hc] at h
            split at h
            · cases h
            · injection h with _ h
              omega
      · rw [rd_form h17 h4 h0] at h; cases h
/-! ### all requests -/
structure Al where
  qs : List Rq
  st : Int
  rest : List UInt8
/-- the requests that bytes have, what is wrong then (0: nothing), and what wasn't read -/
noncomputable def allF (l : List UInt8) : Al :=
  match h : rdF l with
  | .more => ⟨[], 0, l⟩
  | .bad st => ⟨[], st, l⟩
  | .ok q n => ⟨q :: (allF (l.drop n)).qs, (allF (l.drop n)).st, (allF (l.drop n)).rest⟩
termination_by l.length
decreasing_by
  all_goals
    have := rd_pos h
    rw [List.length_drop]
    omega
theorem all_more {l : List UInt8} (h : rdF l = .more) : allF l = ⟨[], 0, l⟩ := by
  rw [allF]
  split <;> rename_i e
  · rfl
  · rw [h] at e; cases e
  · rw [h] at e; cases e
theorem all_bad {l : List UInt8} {st : Int} (h : rdF l = .bad st) : allF l = ⟨[], st, l⟩ := by
  rw [allF]
  split <;> rename_i e
  · rw [h] at e; cases e
  · rw [h] at e; injection e with e; rw [e]
  · rw [h] at e; cases e
theorem all_ok {l : List UInt8} {q : Rq} {n : Nat} (h : rdF l = .ok q n) : allF l = ⟨q :: (allF (l.drop n)).qs, (allF (l.drop n)).st, (allF (l.drop n)).rest⟩ := by
  rw [allF]
  split <;> rename_i e
  · rw [h] at e; cases e
  · rw [h] at e; cases e
  · rw [h] at e; injection e with e1 e2; rw [e1, e2]
theorem all_append (r : List UInt8) : ∀ (k : Nat) (l : List UInt8), l.length ≤ k → allF (l ++ r) = if (allF l).st = 0 then ⟨(allF l).qs ++ (allF ((allF l).rest ++ r)).qs, (allF ((allF l).rest ++ r)).st, (allF ((allF l).rest ++ r)).rest⟩ else ⟨(allF l).qs, (allF l).st, (allF l).rest ++ r⟩ := by
  intro k
  induction k with
  | zero =>
    intro l hl
    have : l = [] := List.eq_nil_of_length_eq_zero (by omega)
    subst this
    have h : rdF [] = .more := by
      cases hq : rdF [] with
      | more => rfl
      | bad st =>
        exfalso
        have hs : (spl []).err = 17 := by simp [spl, lineF, cutB]
        rw [rd_short hs] at hq; cases hq
      | ok q n => have := rd_pos hq; simp at this; omega
    rw [all_more h, if_pos rfl]
    simp
  | succ k ih =>
    intro l hl
    cases hq : rdF l with
    | more => rw [all_more hq, if_pos rfl]; simp
    | bad st =>
      have hs := rd_stays l r (by rw [hq]; intro e; cases e)
      rw [hq] at hs
      rw [all_bad hq, all_bad hs, if_neg (rd_bad_ne hq).1]
    | ok q n =>
      have hs := rd_stays l r (by rw [hq]; intro e; cases e)
      rw [hq] at hs
      obtain ⟨h1, h2⟩ := rd_pos hq
      have := ih (l.drop n) (by rw [List.length_drop]; omega)
      rw [all_ok hq, all_ok hs, List.drop_append_of_le_length h2, this]
      simp only
      split <;> simp
/-- what is left isn't a whole request -/
theorem all_rest : ∀ (k : Nat) (l : List UInt8), l.length ≤ k → (allF l).st = 0 → rdF (allF l).rest = .more := by
  intro k
  induction k with
  | zero =>
    intro l hl h
    cases hq : rdF l with
    | more => rw [all_more hq]; exact hq
    | bad st => rw [all_bad hq] at h; exact absurd h (rd_bad_ne hq).1
    | ok q n => have := rd_pos hq; omega
  | succ k ih =>
    intro l hl h
    cases hq : rdF l with
    | more => rw [all_more hq]; exact hq
    | bad st => rw [all_bad hq] at h; exact absurd h (rd_bad_ne hq).1
    | ok q n =>
      have hp := rd_pos hq
      rw [all_ok hq] at h ⊢
      exact ih (l.drop n) (by rw [List.length_drop]; omega) h
/-- what is wrong is wrong of what is left -/
theorem all_wrong : ∀ (k : Nat) (l : List UInt8), l.length ≤ k → (allF l).st ≠ 0 → rdF (allF l).rest = .bad (allF l).st := by
  intro k
  induction k with
  | zero =>
    intro l hl h
    cases hq : rdF l with
    | more => rw [all_more hq] at h; exact absurd rfl h
    | bad st => rw [all_bad hq]; exact hq
    | ok q n => have := rd_pos hq; omega
  | succ k ih =>
    intro l hl h
    cases hq : rdF l with
    | more => rw [all_more hq] at h; exact absurd rfl h
    | bad st => rw [all_bad hq]; exact hq
    | ok q n =>
      have hp := rd_pos hq
      rw [all_ok hq] at h ⊢
      exact ih (l.drop n) (by rw [List.length_drop]; omega) h
/-- each request has a byte -/
theorem all_count : ∀ (k : Nat) (l : List UInt8), l.length ≤ k → (allF l).qs.length + (allF l).rest.length ≤ l.length := by
  intro k
  induction k with
  | zero =>
    intro l hl
    cases hq : rdF l with
    | more => rw [all_more hq]; simp
    | bad st => rw [all_bad hq]; simp
    | ok q n => have := rd_pos hq; omega
  | succ k ih =>
    intro l hl
    cases hq : rdF l with
    | more => rw [all_more hq]; simp
    | bad st => rw [all_bad hq]; simp
    | ok q n =>
      have hp := rd_pos hq
      have := ih (l.drop n) (by rw [List.length_drop]; omega)
      rw [all_ok hq]
      rw [List.length_drop] at this
      show ((q :: (allF (l.drop n)).qs).length + (allF (l.drop n)).rest.length) ≤ l.length
      rw [List.length_cons]
      omega
theorem all_nil : allF [] = ⟨[], 0, []⟩ := by
  cases hq : rdF [] with
  | more => exact all_more hq
  | bad st =>
    have hs : (spl []).err = 17 := by simp [spl, lineF, cutB]
    rw [rd_short hs] at hq; cases hq
  | ok q n => have := rd_pos hq; simp at this; omega
/-- what was wrong is wrong, whatever comes; else the requests of the rest with what comes follow -/
theorem all_cut (l r : List UInt8) (h : (allF l).st = 0) : (allF (l ++ r)).qs = (allF l).qs ++ (allF ((allF l).rest ++ r)).qs ∧ (allF (l ++ r)).st = (allF ((allF l).rest ++ r)).st ∧ (allF (l ++ r)).rest = (allF ((allF l).rest ++ r)).rest := by
  rw [all_append r l.length l (Nat.le_refl _), if_pos h]
  exact ⟨rfl, rfl, rfl⟩
theorem all_cut_bad (l r : List UInt8) (h : (allF l).st ≠ 0) : (allF (l ++ r)).qs = (allF l).qs ∧ (allF (l ++ r)).st = (allF l).st := by
  rw [all_append r l.length l (Nat.le_refl _), if_neg h]
  exact ⟨rfl, rfl⟩
end Go.Proofs.YtbngfphiachnoaaGreatDoor.In
end

section
namespace Go.Proofs.YtbngfphiachnoaaGreatDoor.Ch
open Go.RowKit Go.PlainAid
open Hx Fi
set_option linter.unusedVariables false
set_option maxRecDepth 20000
set_option linter.unusedSimpArgs false

/-! ### rows of bytes -/
def Row (w : World) (v : Value) (l : List UInt8) : Prop := w.ownsRow 0 5 1 v l.length (bytesV l)
theorem Row.nil (w : World) : Row w (.slice none 0 0) [] := World.ownsRow_nil w 0 5 1
theorem Row.form {w : World} {v : Value} {l : List UInt8} (h : Row w v l) : ∃ o cap, v = .slice o l.length cap ∧ l.length ≤ cap ∧ cap ≤ 9223372036854775807 := by
  rcases h.2 with ⟨rfl, e⟩ | ⟨g, cap, cur, rfl, _, _, h1, h2, _⟩
  · exact ⟨none, 0, by rw [e], by omega, by omega⟩
  · exact ⟨_, cap, rfl, h1, by unfold maxLen at h2; omega⟩
theorem Row.len {w : World} {o : Option Addr} {n cap : Nat} {l : List UInt8} (h : Row w (.slice o n cap) l) : n = l.length := by
  obtain ⟨o', cap', e, _⟩ := h.form
  injection e
theorem Row.same {w w' : World} {v : Value} {l : List UInt8} (h : Row w v l) (hs : ∀ b, v.ownBlock = some b → w'.heap[b]? = w.heap[b]?) : Row w' v l := by
  refine ⟨h.1, ?_⟩
  rcases h.2 with hn | ⟨g, cap, cur, rfl, hb, hg, r⟩
  · exact .inl hn
  · exact .inr ⟨g, cap, cur, rfl, hb, by rw [hs g rfl]; exact hg, r⟩
theorem Row.block {w : World} {v : Value} {l : List UInt8} (h : Row w v l) {b : Nat} (hb : v.ownBlock = some b) : ∃ cur, w.heap[b]? = some (.cells cur 5 (0, 0)) := by
  rcases h.2 with ⟨rfl, _⟩ | ⟨g, cap, cur, rfl, _, hg, _⟩
  · simp [Value.ownBlock] at hb
  · simp [Value.ownBlock] at hb
    subst hb
    exact ⟨cur, hg⟩
theorem Row.text {w : World} {v : Value} {l : List UInt8} (h : Row w v l) : (convert 55 9 v).run Tryz.prog w = .ok (.string (tx l)) w := conv_row h
theorem Row.cut {w : World} {o : Option Addr} {n cap : Nat} {l : List UInt8} (h : Row w (.slice o n cap) l) : Row w (.slice o 0 cap) [] := by
  refine ⟨rfl, ?_⟩
  rcases h.2 with ⟨e, _⟩ | ⟨g, cap', cur, e, hb, hg, h1, h2, h3, h4⟩
  · injection e with e1 e2 e3
    subst e1 e3
    exact .inl ⟨rfl, rfl⟩
  · injection e with e1 e2 e3
    subst e1 e3
    exact .inr ⟨g, cap, cur, rfl, hb, hg, Nat.zero_le _, h2, h3, by simp [bytesV]⟩
theorem strCells_ls (s : ByteArray) : Lib.strCells s = bytesV (ls s) := rfl
/-- append(bytes, text...) -/
theorem Row.append {w : World} {v : Value} {l : List UInt8} (h : Row w v l) (s : ByteArray) (hb : l.length + s.size ≤ 1099511627776) (ty : TypeId) :
    ∃ v' w', (Builtin.append_ #[55, 9] ty #[v, .string s]).run Tryz.prog w = .ok v' w' ∧ Row w' v' (l ++ ls s) ∧ w.grownBy w' v.ownBlock ∧ (v'.ownBlock = v.ownBlock ∨ v'.ownBlock = some w.heap.size) := by
  obtain ⟨i, hi, hz, hs1, hb1⟩ := info_parts info5
  have ht := Tryz.underlying55
  have hu := Tryz.underlying9
  have hlen : (l ++ ls s).length = l.length + s.size := by rw [List.length_append, ls_len]
  have hxl : (bytesV l).length = l.length := bytesV_len l
  have hcl : (bytesV (l ++ ls s)).length = (l.length + s.size) * 1 := by rw [bytesV_len, hlen, Nat.mul_one]
  have grown : ∀ (old : Nat), ∀ row : Option Nat, Row (w.drew.alloc (.cells ((bytesV l).toArray ++ (Lib.strCells s).toArray ++ Builtin.zeroCells (Value.int .u8 0).cells (grownCap w (l.length + s.size) old 5 - (l.length + s.size))) 5))
        (.slice (some ⟨w.heap.size, 0, none⟩) (l.length + s.size) (grownCap w (l.length + s.size) old 5)) (l ++ ls s) ∧
      w.grownBy (w.drew.alloc (.cells ((bytesV l).toArray ++ (Lib.strCells s).toArray ++ Builtin.zeroCells (Value.int .u8 0).cells (grownCap w (l.length + s.size) old 5 - (l.length + s.size))) 5)) row := by
    intro old row
    have hge := grownCap_ge w (l.length + s.size) old 5
    have hcm := grownCap_le_maxLen w (l.length + s.size) old 5 (by unfold maxLen; omega)
    refine ⟨⟨by rw [hcl, hlen], .inr ⟨w.heap.size, _, _, by rw [hlen], Nat.zero_le _, heap_alloc_new w.drew _, by rw [hlen]; exact hge, hcm, ?_, ?_⟩⟩, ⟨rfl, rfl, rfl, by simp, fun k hk _ => Go.heap_alloc_old w.drew _ hk⟩⟩
    · have hz1 : (Value.int IntKind.u8 0).cells.size = 1 := rfl
      simp only [Array.size_append, List.size_toArray, size_zeroCells, hz1, hxl, Lib.strCells_length]
      omega
    · simp only [Array.toList_append, List.append_assoc, strCells_ls]
      rw [← List.append_assoc, ← bytesV_append, List.take_append_of_le_length (by rw [hcl, hlen]; exact Nat.le_refl _), List.take_of_length_le (by rw [hcl, hlen]; exact Nat.le_refl _)]
  rcases h.2 with ⟨rfl, h0⟩ | ⟨g, cap, cur, rfl, hbg, hg, hl, hm, hc, htk⟩
  · have hn0 : l = [] := List.eq_nil_of_length_eq_zero h0
    subst hn0
    by_cases h0 : s.size = 0
    · have hn : ls s = [] := ls_empty h0
      refine ⟨.slice none 0 0, w, ?_, by rw [hn]; exact Row.nil w, ⟨rfl, rfl, rfl, Nat.le_refl _, fun _ _ _ => rfl⟩, .inl rfl⟩
      have hf := Lib.run_firstCells_string (P := Tryz.prog) w 1 s
      rw [h0] at hf
      simp [Builtin.append_, run_underlying ht, run_underlying hu, sizeOf, typeInfo, hi, hs1, Builtin.lenOf, h0, hf]
    · have hr := run_append_nil_string (P := Tryz.prog) w 55 9 ty 5 i (.int .u8 0) ht hu hi hz s (by omega) (by omega) (by rw [hb1]; omega)
      have hgr := grown 0 (Value.ownBlock (.slice none 0 0))
      have e0 : bytesV [] = [] := rfl
      simp only [List.length_nil, Nat.zero_add, List.nil_append, e0, Array.empty_append] at hgr ⊢
      have e1 : (s.data.map fun b => Value.int .u8 b.toNat) = (Lib.strCells s).toArray := by
        apply Array.ext'
        simp [Lib.strCells]
      rw [e1] at hr
      exact ⟨_, _, hr, hgr.1, hgr.2, .inr rfl⟩
  · have htk' : cur.toList.take l.length = bytesV l := by simpa using htk
    by_cases hroom : l.length + s.size ≤ cap
    · have hr := Lib.run_append_room_string (P := Tryz.prog) w 55 9 ty 5 i ht hu hi hs1 g l.length cap cur hg s hroom (by omega)
      refine ⟨_, _, hr, ⟨by rw [hcl, hlen], .inr ⟨g, cap, _, by rw [hlen], Nat.zero_le _, setRow_heap w g cur _ _ _ hg, by rw [hlen]; exact hroom, hm, ?_, ?_⟩⟩, ⟨rfl, rfl, rfl, by simp, fun k _ hk => setRow_other w g k _ (fun e => hk (by simp [Value.ownBlock, e]))⟩, .inl rfl⟩
      · simp only [List.size_toArray, List.length_append, List.length_take, List.length_drop, Array.length_toList, Lib.strCells_length]
        omega
      · rw [htk', strCells_ls, ← bytesV_append]
        show List.take _ (bytesV (l ++ ls s) ++ _) = _
        rw [hlen, ← hcl]
        exact List.take_left
    · have holds : ∀ j u, (bytesV l)[j]? = some u → w.cell? ((⟨g, 0, none⟩ : Addr).add j) = some u := World.ownsRow.cells h (g := g) rfl
      have hr := Lib.run_append_grow_string (P := Tryz.prog) w 55 9 ty 5 i (.int .u8 0) ht hu hi hz ⟨g, 0, none⟩ l.length cap (bytesV l) (by rw [hs1]; simpa using hxl) holds s (by omega) (by omega) (by rw [hb1]; exact growslice_fits (by omega) (by omega))
      have hgr := grown cap (Value.ownBlock (.slice (some ⟨g, 0, none⟩) l.length cap))
      exact ⟨_, _, hr, hgr.1, hgr.2, .inr rfl⟩

/-! ### regions that draw: what only computes is taken first, the rest in its one order -/
section
variable {P : Program} {md : Region.Mode} {ops : Array Oper} {Q : Exit → Act → World → Prop}
theorem any_one (i : Nat) {fuel : Nat} {listed : Array Bool} {a : Act} {w : World} (hr : Region.ready md ops listed = [i])
    (h : ∀ K : Act → World → Prop, (∀ a w, wpAny P md ops Q fuel (listed.setIfInBounds i true) a w → K a w) → wpOp P ops Q i K a w) : wpAny P md ops Q (fuel + 1) listed a w :=
  wpAny_all hr (by simp) (by intro k hk; simp at hk; subst hk; exact h _ fun _ _ h => h)
theorem any_take (i : Nat) (v : Value) {oi : Oper} {fuel : Nat} {listed : Array Bool} {a : Act} {w : World} (hi : ops[i]? = some oi) (hs : Region.noSelect ops = true) (hf : Region.free md ops listed i = true) (hr : (Region.ready md ops listed).contains i = true)
    (hQ : ∀ c a w, Q (.panic c) (a.put oi.dst v) w → Q (.panic c) a w) (hy : Yields P ops oi v a)
    (h : ∀ K : Act → World → Prop, (∀ a w, wpAny P md ops Q fuel (listed.setIfInBounds i true) a w → K a w) → K (a.put oi.dst v) w) : wpAny P md ops Q (fuel + 1) listed a w :=
  wpAny_take hi hs hf hr hQ hy (h _ fun _ _ h => h)
end
end Go.Proofs.YtbngfphiachnoaaGreatDoor.Ch
end

section
namespace Go.Proofs.YtbngfphiachnoaaGreatDoor.Ch
open Go.RowKit Go.PlainAid
open Hx Fi
set_option linter.unusedVariables false
set_option maxRecDepth 20000
set_option linter.unusedSimpArgs false

/-- the numbers and bytes of a struct -/
structure C where
  nx : Int
  most : Int
  n : Int
  due : Int
  part : List UInt8
  data : List UInt8
  fs : Int
  rest : List UInt8
  wr : Int
def cV (nx most n due : Int) (x y : Value) (fs : Int) (z : Value) (wr : Int) : Array Value := #[.int .i64 nx, .int .i64 most, .int .i64 n, .int .i64 due, x, y, .int .i64 fs, z, .int .i64 wr]
def Ap (x y : Value) : Prop := ∀ b, x.ownBlock = some b → y.ownBlock ≠ some b
theorem Ap.symm {x y : Value} (h : Ap x y) : Ap y x := fun b hb e => h b e hb
/-- what turned: the zone Z alone; Z' is Z or new -/
structure Goes (w w' : World) (Z Z' : Nat → Prop) : Prop where
  os : w'.os = w.os
  tape : w'.tape = w.tape
  output : w'.output = w.output
  size : w.heap.size ≤ w'.heap.size
  block : ∀ b, b < w.heap.size → ¬ Z b → w'.heap[b]? = w.heap[b]?
  sub : ∀ b, Z' b → Z b ∨ w.heap.size ≤ b
theorem Goes.refl (w : World) (Z : Nat → Prop) : Goes w w Z Z := ⟨rfl, rfl, rfl, Nat.le_refl _, fun _ _ _ => rfl, fun _ h => .inl h⟩
theorem Goes.trans {a b c : World} {Z Z' Z'' : Nat → Prop} (h : Goes a b Z Z') (k : Goes b c Z' Z'') : Goes a c Z Z'' := by
  refine ⟨k.os.trans h.os, k.tape.trans h.tape, k.output.trans h.output, Nat.le_trans h.size k.size, fun i hi hz => ?_, fun i hi => ?_⟩
  · refine (k.block i (Nat.lt_of_lt_of_le hi h.size) fun hz' => ?_).trans (h.block i hi hz)
    rcases h.sub i hz' with e | e
    · exact hz e
    · omega
  · rcases k.sub i hi with e | e
    · exact h.sub i e
    · exact .inr (Nat.le_trans h.size e)
theorem Goes.of_below {w w' : World} (h : Below w.heap.size w w') (Z : Nat → Prop) : Goes w w' Z Z := ⟨h.os, h.tape, h.output, h.size, fun b hb _ => h.block b hb, fun _ h => .inl h⟩
theorem Goes.below {w w' : World} {Z Z' : Nat → Prop} (h : Goes w w' Z Z') {N : Nat} {w0 : World} (hb : Below N w0 w) (hN : N ≤ w.heap.size) (hz : ∀ b, Z b → N ≤ b) : Below N w0 w' :=
  hb.trans ⟨h.os, h.tape, h.output, h.size, fun b hb' => h.block b (by omega) fun z => by have := hz b z; omega⟩
theorem Goes.set {w : World} {Z : Nat → Prop} (a : Addr) (v : Value) (hz : Z a.block) : Goes w (w.setCell a v) Z Z :=
  ⟨rfl, rfl, rfl, by simp, fun b hb hn => Below.heap_setCell _ _ _ _ fun e => hn (by rw [e]; exact hz), fun _ h => .inl h⟩
theorem Goes.zone {w w' : World} {Z Z' Y : Nat → Prop} (h : Goes w w' Z Z') (hy : ∀ b, Z' b → Y b) (hs : ∀ b, Y b → Z' b) : Goes w w' Z Y := ⟨h.os, h.tape, h.output, h.size, h.block, fun b hb => h.sub b (hs b hb)⟩

/-- the struct at p, its rows x (a line under way), y (data), z (behind it), all in the zone Z -/
structure ChAt (w : World) (p : Nat) (x y z : Value) (Z : Nat → Prop) (c : C) : Prop where
  st : At w p 106 (cV c.nx c.most c.n c.due x y c.fs z c.wr)
  px : Row w x c.part
  py : Row w y c.data
  pz : Row w z c.rest
  xy : Ap x y
  xz : Ap x z
  yz : Ap y z
  zp : Z p
  zx : ∀ b, x.ownBlock = some b → Z b
  zy : ∀ b, y.ownBlock = some b → Z b
  zz : ∀ b, z.ownBlock = some b → Z b
  lt : ∀ b, Z b → b < w.heap.size
section
variable {w w' : World} {p : Nat} {x y z : Value} {Z : Nat → Prop} {c : C}
theorem kind_ne {a b : Nat} {o o' : Obj} (ha : w.heap[a]? = some o) (hb : w.heap[b]? = some o') (h : o ≠ o') : a ≠ b := by
  intro e
  rw [e, hb] at ha
  exact h (Option.some.inj ha).symm
theorem row_ne {v : Value} {l : List UInt8} (h : Row w v l) {cs : Array Value} (hp : At w p 106 cs) {b : Nat} (hb : v.ownBlock = some b) : b ≠ p := by
  obtain ⟨cur, hc⟩ := h.block hb
  exact kind_ne hc hp.heap (fun e => by injection e with _ e _; exact absurd e (by decide))
theorem ChAt.kept (h : ChAt w p x y z Z c) (hs : w.heap.size ≤ w'.heap.size) (hb : ∀ b, Z b → w'.heap[b]? = w.heap[b]?) : ChAt w' p x y z Z c :=
  ⟨h.st.same (hb p h.zp), h.px.same fun b e => hb b (h.zx b e), h.py.same fun b e => hb b (h.zy b e), h.pz.same fun b e => hb b (h.zz b e), h.xy, h.xz, h.yz, h.zp, h.zx, h.zy, h.zz, fun b hz => Nat.lt_of_lt_of_le (h.lt b hz) hs⟩
theorem ChAt.old (h : ChAt w p x y z Z c) (hb : Below w.heap.size w w') : ChAt w' p x y z Z c := h.kept hb.size fun b hz => hb.block b (h.lt b hz)
theorem ChAt.drew (h : ChAt w p x y z Z c) : ChAt w.drew p x y z Z c := h.kept (Nat.le_refl _) fun _ _ => rfl
/-- another one's zone has turned -/
theorem ChAt.moved {Y Y' : Nat → Prop} (h : ChAt w p x y z Z c) (g : Goes w w' Y Y') (d : ∀ b, Y b → ¬ Z b) : ChAt w' p x y z Z c :=
  h.kept g.size fun b hz => g.block b (h.lt b hz) fun e => d b e hz
/-- one of its numbers is another one -/
theorem ChAt.num (h : ChAt w p x y z Z c) (j : Nat) (v : Value) {c' : C} (e : (cV c.nx c.most c.n c.due x y c.fs z c.wr).setIfInBounds j v = cV c'.nx c'.most c'.n c'.due x y c'.fs z c'.wr) (e1 : c'.part = c.part) (e2 : c'.data = c.data) (e3 : c'.rest = c.rest) :
    ChAt (w.setCell ⟨p, j, none⟩ v) p x y z Z c' ∧ Goes w (w.setCell ⟨p, j, none⟩ v) Z Z := by
  have hb : ∀ {v' : Value} {l : List UInt8}, Row w v' l → Row (w.setCell ⟨p, j, none⟩ v) v' l := fun r => r.same fun b hb => Below.heap_setCell _ _ _ _ (row_ne r h.st hb)
  refine ⟨⟨?_, by rw [e1]; exact hb h.px, by rw [e2]; exact hb h.py, by rw [e3]; exact hb h.pz, h.xy, h.xz, h.yz, h.zp, h.zx, h.zy, h.zz, fun b hz => by simpa using h.lt b hz⟩, Goes.set _ _ h.zp⟩
  rw [← e]
  exact h.st.set j v
end
/-! ### a row is another one: w1 is w but for that row and new blocks, then it is laid into the struct -/
def Zn (Z : Nat → Prop) (v : Value) : Nat → Prop := fun b => Z b ∨ v.ownBlock = some b
section
variable {w w1 : World} {p : Nat} {x y z v v' u : Value} {Z : Nat → Prop} {c : C} {l l' : List UInt8} {cs : Array Value}
theorem Row.far (q : Row w u l) (hp : At w p 106 cs) (g : w.grownBy w1 v.ownBlock) (a : Ap u v) (j : Nat) (v' : Value) : Row (w1.setCell ⟨p, j, none⟩ v') u l := by
  refine q.same fun b hb => ?_
  obtain ⟨cur, hc⟩ := q.block hb
  have hlt := (Array.getElem?_eq_some_iff.1 hc).1
  rw [Below.heap_setCell _ _ _ _ (row_ne q hp hb)]
  exact g.block b hlt fun e => a b hb e.symm
theorem Row.here (r : Row w1 v' l') (hp1 : At w1 p 106 cs) (j : Nat) (u : Value) : Row (w1.setCell ⟨p, j, none⟩ u) v' l' := r.same fun b hb => Below.heap_setCell _ _ _ _ (row_ne r hp1 hb)
def Lies (w : World) (v v' : Value) : Prop := v'.ownBlock = v.ownBlock ∨ ∀ b, v'.ownBlock = some b → w.heap.size ≤ b
theorem Ap.new (q : Row w u l) (a : Ap u v) (hl : Lies w v v') : Ap u v' := fun b hb e2 => by
  rcases hl with e3 | e3
  · exact a b hb (by rw [← e3]; exact e2)
  · obtain ⟨cur, hc⟩ := q.block hb
    have := (Array.getElem?_eq_some_iff.1 hc).1
    have := e3 b e2
    omega
theorem zn_lt (lt : ∀ b, Z b → b < w.heap.size) (g : w.heap.size ≤ w1.heap.size) (r : Row w1 v' l') (p j : Nat) : ∀ b, Zn Z v' b → b < (w1.setCell ⟨p, j, none⟩ v').heap.size := by
  rintro b (hb | hb)
  · have := lt b hb
    simp; omega
  · obtain ⟨cur, hc⟩ := r.block hb
    have := (Array.getElem?_eq_some_iff.1 hc).1
    simpa using this
theorem zn_goes (zp : Z p) (g : w.grownBy w1 v.ownBlock) (zv : ∀ b, v.ownBlock = some b → Z b) (hl : Lies w v v') (j : Nat) : Goes w (w1.setCell ⟨p, j, none⟩ v') Z (Zn Z v') := by
  refine ⟨g.os, g.tape, g.output, by simpa using g.size, fun b hb hn => ?_, fun b hb => ?_⟩
  · rw [Below.heap_setCell _ _ _ _ (fun e => hn (by subst e; exact zp))]
    exact g.block b hb fun e => hn (zv b e.symm)
  · rcases hb with hb | hb
    · exact .inl hb
    · rcases hl with e | e
      · exact .inl (zv b (by rw [← e]; exact hb))
      · exact .inr (e b hb)
theorem ChAt.rowX (h : ChAt w p x y z Z c) (g : w.grownBy w1 x.ownBlock) (r : Row w1 v' l') (hl : Lies w x v') :
    ChAt (w1.setCell ⟨p, 4, none⟩ v') p v' y z (Zn Z v') { c with part := l' } ∧ Goes w (w1.setCell ⟨p, 4, none⟩ v') Z (Zn Z v') := by
  have hp1 : At w1 p 106 (cV c.nx c.most c.n c.due x y c.fs z c.wr) := h.st.same (g.block p h.st.lt fun e => row_ne h.px h.st e.symm rfl)
  have ay := Ap.new h.py h.xy.symm hl
  have az := Ap.new h.pz h.xz.symm hl
  exact ⟨⟨hp1.set 4 v', r.here hp1 4 v', h.py.far h.st g h.xy.symm 4 v', h.pz.far h.st g h.xz.symm 4 v', ay.symm, az.symm, h.yz, .inl h.zp, fun b hb => .inr hb, fun b hb => .inl (h.zy b hb), fun b hb => .inl (h.zz b hb), zn_lt h.lt g.size r p 4⟩, zn_goes h.zp g h.zx hl 4⟩
theorem ChAt.rowY (h : ChAt w p x y z Z c) (g : w.grownBy w1 y.ownBlock) (r : Row w1 v' l') (hl : Lies w y v') :
    ChAt (w1.setCell ⟨p, 5, none⟩ v') p x v' z (Zn Z v') { c with data := l' } ∧ Goes w (w1.setCell ⟨p, 5, none⟩ v') Z (Zn Z v') := by
  have hp1 : At w1 p 106 (cV c.nx c.most c.n c.due x y c.fs z c.wr) := h.st.same (g.block p h.st.lt fun e => row_ne h.py h.st e.symm rfl)
  have ax := Ap.new h.px h.xy hl
  have az := Ap.new h.pz h.yz.symm hl
  exact ⟨⟨hp1.set 5 v', h.px.far h.st g h.xy 5 v', r.here hp1 5 v', h.pz.far h.st g h.yz.symm 5 v', ax, h.xz, az.symm, .inl h.zp, fun b hb => .inl (h.zx b hb), fun b hb => .inr hb, fun b hb => .inl (h.zz b hb), zn_lt h.lt g.size r p 5⟩, zn_goes h.zp g h.zy hl 5⟩
theorem ChAt.rowZ (h : ChAt w p x y z Z c) (g : w.grownBy w1 z.ownBlock) (r : Row w1 v' l') (hl : Lies w z v') :
    ChAt (w1.setCell ⟨p, 7, none⟩ v') p x y v' (Zn Z v') { c with rest := l' } ∧ Goes w (w1.setCell ⟨p, 7, none⟩ v') Z (Zn Z v') := by
  have hp1 : At w1 p 106 (cV c.nx c.most c.n c.due x y c.fs z c.wr) := h.st.same (g.block p h.st.lt fun e => row_ne h.pz h.st e.symm rfl)
  have ax := Ap.new h.px h.xz hl
  have ay := Ap.new h.py h.yz hl
  exact ⟨⟨hp1.set 7 v', h.px.far h.st g h.xz 7 v', h.py.far h.st g h.yz 7 v', r.here hp1 7 v', h.xy, ax, ay, .inl h.zp, fun b hb => .inl (h.zx b hb), fun b hb => .inl (h.zy b hb), fun b hb => .inr hb, zn_lt h.lt g.size r p 7⟩, zn_goes h.zp g h.zz hl 7⟩
theorem grown_refl (w : World) (row : Option Nat) : w.grownBy w row := ⟨rfl, rfl, rfl, Nat.le_refl _, fun _ _ _ => rfl⟩
/-- the line under way is cut to nothing -/
theorem ChAt.cutX {o : Option Addr} {n cap : Nat} (h : ChAt w p (.slice o n cap) y z Z c) : ChAt (w.setCell ⟨p, 4, none⟩ (.slice o 0 cap)) p (.slice o 0 cap) y z Z { c with part := [] } ∧ Goes w (w.setCell ⟨p, 4, none⟩ (.slice o 0 cap)) Z Z := by
  have own : (Value.slice o 0 cap).ownBlock = (Value.slice o n cap).ownBlock := by cases o <;> rfl
  obtain ⟨a, g⟩ := h.rowX (v' := .slice o 0 cap) (grown_refl w _) h.px.cut (.inl own)
  have e : ∀ b, Zn Z (.slice o 0 cap) b ↔ Z b := fun b => ⟨fun hb => by
    rcases hb with hb | hb
    · exact hb
    · exact h.zx b (by rw [← own]; exact hb), .inl⟩
  exact ⟨⟨a.st, a.px, a.py, a.pz, a.xy, a.xz, a.yz, h.zp, fun b hb => (e b).1 (a.zx b hb), h.zy, h.zz, fun b hb => a.lt b (.inl hb)⟩, ⟨g.os, g.tape, g.output, g.size, g.block, fun b hb => .inl hb⟩⟩
/-- data is taken -/
theorem ChAt.takeY (h : ChAt w p x y z Z c) : ChAt (w.setCell ⟨p, 5, none⟩ (.slice none 0 0)) p x (.slice none 0 0) z Z { c with data := [] } ∧ Goes w (w.setCell ⟨p, 5, none⟩ (.slice none 0 0)) Z Z := by
  obtain ⟨a, g⟩ := h.rowY (v' := .slice none 0 0) (grown_refl w _) (Row.nil w) (.inr fun b hb => by simp [Value.ownBlock] at hb)
  exact ⟨⟨a.st, a.px, a.py, a.pz, a.xy, a.xz, a.yz, h.zp, h.zx, fun b hb => by simp [Value.ownBlock] at hb, h.zz, fun b hb => a.lt b (.inl hb)⟩, ⟨g.os, g.tape, g.output, g.size, g.block, fun b hb => .inl hb⟩⟩
end
/-! ### its cells -/
section
variable {w : World} {p : Nat} {x y z : Value} {Z : Nat → Prop} {c : C}
theorem ChAt.c0 (h : ChAt w p x y z Z c) : w.cell? ⟨p, 0, none⟩ = some (.int .i64 c.nx) := h.st.cell 0
theorem ChAt.c1 (h : ChAt w p x y z Z c) : w.cell? ⟨p, 1, none⟩ = some (.int .i64 c.most) := h.st.cell 1
theorem ChAt.c2 (h : ChAt w p x y z Z c) : w.cell? ⟨p, 2, none⟩ = some (.int .i64 c.n) := h.st.cell 2
theorem ChAt.c3 (h : ChAt w p x y z Z c) : w.cell? ⟨p, 3, none⟩ = some (.int .i64 c.due) := h.st.cell 3
theorem ChAt.c4 (h : ChAt w p x y z Z c) : w.cell? ⟨p, 4, none⟩ = some x := h.st.cell 4
theorem ChAt.c5 (h : ChAt w p x y z Z c) : w.cell? ⟨p, 5, none⟩ = some y := h.st.cell 5
theorem ChAt.c6 (h : ChAt w p x y z Z c) : w.cell? ⟨p, 6, none⟩ = some (.int .i64 c.fs) := h.st.cell 6
theorem ChAt.c7 (h : ChAt w p x y z Z c) : w.cell? ⟨p, 7, none⟩ = some z := h.st.cell 7
theorem ChAt.c8 (h : ChAt w p x y z Z c) : w.cell? ⟨p, 8, none⟩ = some (.int .i64 c.wr) := h.st.cell 8
theorem ChAt.fz (h : ChAt w p x y z Z c) (j : Nat) : w.frozen? ⟨p, j, none⟩ = false := h.st.frozen j
end
/-- append(bytes, text...) at an operation -/
theorem wp_app {o : Oper} {a : Act} {K : Act → World → Prop} {Q : Exit → Act → World → Prop} {w : World} {v : Value} {l : List UInt8} (h : Row w v l) {s : ByteArray} (hb : l.length + s.size ≤ 1099511627776) (sl x : Operand)
    (hop : o.op = .call { callee := .builtin .append, args := #[sl, x], argTypes := #[55, 9] }) (hs : a.eval sl = v) (hx : a.eval x = .string s)
    (hK : ∀ o' m cap w', Row w' (.slice o' m cap) (l ++ ls s) → w.grownBy w' v.ownBlock → Lies w v (.slice o' m cap) → K (a.put o.dst (.slice o' m cap)) w') : o.wp Tryz.prog a w K Q := by
  obtain ⟨v', w', hr, h2, h3, h4⟩ := h.append s hb o.type
  unfold Oper.wp execOp
  simp only [hop, resolve, invoke, builtin, Sem.run_bind, Sem.run_pure, Result.andThen_ok, List.map_toArray, List.map_cons, List.map_nil, hs, hx, hr]
  obtain ⟨o', cap', rfl, _, _⟩ := h2.form
  refine hK o' _ cap' w' h2 h3 ?_
  rcases h4 with e | e
  · exact .inl e
  · exact .inr fun b hb => by rw [e] at hb; exact Nat.le_of_eq (Option.some.inj hb)
theorem wpl_app {ops : Array Oper} {rest : List Oper} {o : Oper} {a : Act} {Q : Exit → Act → World → Prop} {w : World} {v : Value} {l : List UInt8} (h : Row w v l) {s : ByteArray} (hb : l.length + s.size ≤ 1099511627776) (hgd : o.guard = none) (sl x : Operand)
    (hop : o.op = .call { callee := .builtin .append, args := #[sl, x], argTypes := #[55, 9] }) (hs : a.eval sl = v) (hx : a.eval x = .string s)
    (hK : ∀ o' m cap w', Row w' (.slice o' m cap) (l ++ ls s) → w.grownBy w' v.ownBlock → Lies w v (.slice o' m cap) → wpList Tryz.prog ops Q rest (a.put o.dst (.slice o' m cap)) w') : wpList Tryz.prog ops Q (o :: rest) a w :=
  wpList_plain hgd fun K hK' => wp_app h hb sl x hop hs hx fun o' m cap w' a b c => hK' _ _ (hK o' m cap w' a b c)
/-- append(bytes, a byte) at an operation -/
theorem wp_app1 {o : Oper} {a : Act} {K : Act → World → Prop} {Q : Exit → Act → World → Prop} {w : World} {v : Value} {l : List UInt8} (h : Row w v l) (hl : l.length ≤ 1099511627776) {B : Nat} {b : UInt8} (hB : w.heap[B]? = some (.cells #[.int .u8 (b.toNat : Int)] 5 (0, 0))) (sl x : Operand)
    (hop : o.op = .call { callee := .builtin .append, args := #[sl, x], argTypes := #[55, 55] }) (hs : a.eval sl = v) (hx : a.eval x = .slice (some ⟨B, 0, none⟩) 1 1)
    (hK : ∀ o' m cap w', Row w' (.slice o' m cap) (l ++ [b]) → w.grownBy w' v.ownBlock → Lies w v (.slice o' m cap) → K (a.put o.dst (.slice o' m cap)) w') : o.wp Tryz.prog a w K Q := by
  obtain ⟨iB, hiB, hB0, hB1, hB2⟩ := info_parts info5
  refine wp_append_lies w sl x 55 hop 0 5 iB (.int .u8 0) 1 1 Tryz.underlying55 hiB hB0 hB1 hB2 rfl (by decide) v l.length (bytesV l) hs h ⟨B, 0, none⟩ 1 1 [.int .u8 (b.toNat : Int)] hx rfl (World.news_of_block (cs := #[_]) hB) (by intro u hu; simp at hu; subst hu; rfl) (by decide) (by unfold maxLen; omega) (by omega) (Nat.zero_le _) w.heap.size rfl ?_
  intro g cap w' own grow at_ lt
  refine hK _ _ _ w' ?_ grow ?_
  · unfold Row
    rw [show (l ++ [b]).length = l.length + 1 by simp, show bytesV (l ++ [b]) = bytesV l ++ [.int .u8 (b.toNat : Int)] by rw [bytesV_append]; rfl]
    exact own
  · rcases at_ with e | e
    · exact .inl e.symm
    · exact .inr fun b hb => by
        have : g = b := by simpa [Value.ownBlock] using hb
        omega
/-- two operations, in either order -/
theorem any_two {P : Program} {md : Region.Mode} {ops : Array Oper} {Q : Exit → Act → World → Prop} (i j : Nat) {fuel : Nat} {listed : Array Bool} {a : Act} {w : World} (hr : Region.ready md ops listed = [i, j])
    (h1 : ∀ K : Act → World → Prop, (∀ a w, wpAny P md ops Q fuel (listed.setIfInBounds i true) a w → K a w) → wpOp P ops Q i K a w) (h2 : ∀ K : Act → World → Prop, (∀ a w, wpAny P md ops Q fuel (listed.setIfInBounds j true) a w → K a w) → wpOp P ops Q j K a w) : wpAny P md ops Q (fuel + 1) listed a w :=
  wpAny_all hr (by simp) (by
    intro k hk; simp at hk
    rcases hk with rfl | rfl
    · exact h1 _ fun _ _ h => h
    · exact h2 _ fun _ _ h => h)
/-- what stands in memory of a struct, whatever its rows -/
def Has (w : World) (p : Nat) (Z : Nat → Prop) (c : C) : Prop := ∃ x y z, ChAt w p x y z Z c
def Post (w w' : World) (p : Nat) (Z : Nat → Prop) (c : C) : Prop := ∃ Z', Has w' p Z' c ∧ Goes w w' Z Z'
theorem Post.trans {w w1 w2 : World} {p : Nat} {Z Z1 : Nat → Prop} {c : C} (g : Goes w w1 Z Z1) (h : Post w1 w2 p Z1 c) : Post w w2 p Z c := by
  obtain ⟨Z2, h, k⟩ := h
  exact ⟨Z2, h, g.trans k⟩
end Go.Proofs.YtbngfphiachnoaaGreatDoor.Ch
end
