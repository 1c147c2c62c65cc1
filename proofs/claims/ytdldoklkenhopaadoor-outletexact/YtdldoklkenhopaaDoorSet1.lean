/-
  Contracts of the leaves of package hexa: what smallDigit, anyDigit, isDecimal and atMost answer for every argument. No conditions but that a byte is a byte.
  Contracts of hexa.isDecimal and hexa.Undec: what they answer for every text of at most 2^62 bytes.
  Heads of messages as plain lists of bytes: tokens, lines, fields, the elements and parameters of a value. No program is spoken of.
-/
import Derived.Test.YtdldoklkenhopaaDoorRows
import Derived.WalkKit
import Derived.Lib.Hide
import Derived.PlainAid
import Derived.Lib.SlTrimSet
section
namespace Go.Proofs.YtdldoklkenhopaaDoor.Hx
open Go.RowKit
set_option linter.unusedVariables false
set_option maxRecDepth 20000

/-- the value of a small digit of base 16 -/
def sv (c : Int) : Int := if 48 ≤ c ∧ c ≤ 57 then c - 48 else if 97 ≤ c ∧ c ≤ 102 then c - 87 else 0
def sok (c : Int) : Bool := decide (48 ≤ c ∧ c ≤ 57) || decide (97 ≤ c ∧ c ≤ 102)
/-- the value of any digit of base 16 -/
def av (c : Int) : Int := if 65 ≤ c ∧ c ≤ 70 then c - 55 else sv c
def aok (c : Int) : Bool := decide (65 ≤ c ∧ c ≤ 70) || sok c

/-- a limit's answer -/
def amN (n m : Int) : Int := if 0 ≤ m ∧ n ≤ m ∧ n ≤ 4611686018427387904 then n else 0
def amE (n m : Int) : Int := if 0 ≤ m ∧ n ≤ m ∧ n ≤ 4611686018427387904 then 0 else 14

end Go.Proofs.YtdldoklkenhopaaDoor.Hx
end

section
namespace Go.Proofs.YtdldoklkenhopaaDoor.Hx
open Go.RowKit Go.PlainAid
set_option linter.unusedVariables false
set_option maxRecDepth 20000

/-- the first k bytes are decimal digits -/
def AllDig (s : ByteArray) (k : Nat) : Prop := ∀ j, j < k → 48 ≤ bt s j ∧ bt s j ≤ 57
theorem AllDig.zero (s : ByteArray) : AllDig s 0 := fun _ h => absurd h (Nat.not_lt_zero _)
theorem AllDig.succ {s : ByteArray} {k : Nat} (h : AllDig s k) (h0 : 48 ≤ bt s k) (h1 : bt s k ≤ 57) : AllDig s (k + 1) := fun j hj => by
  by_cases e : j = k
  · subst e; exact ⟨h0, h1⟩
  · exact h j (by omega)

/-- a text is a decimal number's: some digits, of more than one the first isn't 0 -/
def DecForm (s : ByteArray) : Prop := 0 < s.size ∧ (1 < s.size → bt s 0 ≠ 48) ∧ AllDig s s.size

theorem toList_nil (s : ByteArray) (h : s.size = 0) : s.toList = [] := by
  rw [ByteArray.toList_eq]; apply List.eq_nil_of_length_eq_zero; simpa using h
theorem toList_ne (s : ByteArray) (h : 0 < s.size) : s.toList.isEmpty = false := by
  rw [ByteArray.toList_eq]
  cases e : s.data.toList with
  | nil => have : s.data.toList.length = 0 := by rw [e]; rfl
           have h2 : s.size = s.data.toList.length := by simp
           omega
  | cons a b => rfl
theorem toList_ne' (s : ByteArray) (h : 0 < s.size) : ¬ s.toList = [] := by
  have := toList_ne s h
  intro e; rw [e] at this; cases this

def IsDecPost (s : ByteArray) (w : World) (e : Ending) (w' : World) : Prop := ∃ b : Bool, e = .returned (.bool b) ∧ (b = true ↔ DecForm s) ∧ w = w'

/-- the number of the first k decimal digits -/
def decTo (s : ByteArray) : Nat → Int
  | 0 => 0
  | k + 1 => decTo s k * 10 + (bt s k - 48)
theorem decTo_bd {s : ByteArray} {n : Nat} (h : AllDig s n) : ∀ k, k ≤ n → 0 ≤ decTo s k ∧ decTo s k < 10 ^ k
  | 0, _ => ⟨Int.le_refl _, show (0 : Int) < 10 ^ 0 by decide⟩
  | k + 1, hk => by
    have ih := decTo_bd h k (by omega)
    have hd := h k (by omega)
    have e : (10 : Int) ^ (k + 1) = 10 ^ k * 10 := Int.pow_succ 10 k
    simp only [decTo]
    omega
/-- of at most 19 digits: it fits -/
theorem decTo_fits {s : ByteArray} {n : Nat} (h : AllDig s n) (hn : n ≤ 19) (k : Nat) (hk : k ≤ n) : 0 ≤ decTo s k ∧ decTo s k ≤ 10000000000000000000 := by
  have hb := decTo_bd h k hk
  have hp : (10 : Nat) ^ k ≤ 10 ^ 19 := Nat.pow_le_pow_right (by decide) (by omega)
  have hp' : (10 : Int) ^ k ≤ 10 ^ 19 := by exact_mod_cast hp
  have e : (10 : Int) ^ 19 = 10000000000000000000 := by decide
  omega
theorem decTo_small {s : ByteArray} {n : Nat} (h : AllDig s n) (hn : n ≤ 19) (k : Nat) (hk : k < n) : 0 ≤ decTo s k ∧ decTo s k ≤ 1000000000000000000 := by
  have hb := decTo_bd h k (by omega)
  have hp : (10 : Nat) ^ k ≤ 10 ^ 18 := Nat.pow_le_pow_right (by decide) (by omega)
  have hp' : (10 : Int) ^ k ≤ 10 ^ 18 := by exact_mod_cast hp
  have e : (10 : Int) ^ 18 = 1000000000000000000 := by decide
  omega

end Go.Proofs.YtdldoklkenhopaaDoor.Hx
end

section
namespace Go.Proofs.YtdldoklkenhopaaDoor.Fi
open Go.RowKit Go.PlainAid
open Hx
set_option linter.unusedVariables false
set_option maxRecDepth 20000
set_option linter.unusedSimpArgs false

/-! ### texts and their bytes -/
def ls (s : ByteArray) : List UInt8 := s.data.toList
def tx (l : List UInt8) : ByteArray := ⟨l.toArray⟩
theorem ls_tx (l : List UInt8) : ls (tx l) = l := by simp [ls, tx]
theorem tx_ls (s : ByteArray) : tx (ls s) = s := by cases s; simp [ls, tx]
theorem ls_len (s : ByteArray) : (ls s).length = s.size := by simp [ls]
theorem tx_size (l : List UInt8) : (tx l).size = l.length := rfl
theorem ls_inj {a b : ByteArray} (h : ls a = ls b) : a = b := by rw [← tx_ls a, h, tx_ls]
theorem tx_inj {a b : List UInt8} (h : tx a = tx b) : a = b := by rw [← ls_tx a, h, ls_tx]
theorem eq_tx {s : ByteArray} {l : List UInt8} (h : ls s = l) : s = tx l := by rw [← h, tx_ls]
theorem ls_extract (s : ByteArray) (a b : Nat) : ls (s.extract a b) = ((ls s).drop a).take (b - a) := by
  simp [ls, ByteArray.data_extract, List.take_drop]
theorem ls_append (a b : ByteArray) : ls (a ++ b) = ls a ++ ls b := by simp [ls, ByteArray.data_append]
theorem tx_append (a b : List UInt8) : tx a ++ tx b = tx (a ++ b) := ls_inj (by rw [ls_append, ls_tx, ls_tx, ls_tx])
theorem ls_nil : ls ⟨#[]⟩ = [] := rfl
theorem tx_nil : tx [] = ⟨#[]⟩ := rfl
theorem ls_empty {s : ByteArray} (h : s.size = 0) : ls s = [] := List.eq_nil_of_length_eq_zero (by rw [ls_len, h])
theorem ls_ne {s : ByteArray} (h : 0 < s.size) : ls s ≠ [] := fun e => by have := ls_len s; rw [e] at this; simp at this; omega
theorem ls_toList (s : ByteArray) : s.toList = ls s := ByteArray.toList_eq s
theorem get_ls {s : ByteArray} {k : Nat} (h : k < s.size) : ∃ c, (ls s)[k]? = some c ∧ bt s k = (c.toNat : Int) ∧ ls s = (ls s).take k ++ c :: (ls s).drop (k + 1) ∧ (ls s).take (k + 1) = (ls s).take k ++ [c] ∧ (ls s).drop k = c :: (ls s).drop (k + 1) := by
  have hk : k < (ls s).length := by rw [ls_len]; exact h
  have hd : (ls s).drop k = (ls s)[k] :: (ls s).drop (k + 1) := List.drop_eq_getElem_cons hk
  refine ⟨(ls s)[k], List.getElem?_eq_getElem hk, ?_, ?_, ?_, hd⟩
  · unfold bt; rw [dif_pos h]; rfl
  · rw [← hd, List.take_append_drop]
  · rw [List.take_succ_eq_append_getElem hk]
theorem byte_eq (c d : UInt8) : ((c.toNat : Int) = (d.toNat : Int)) ↔ c = d :=
  ⟨fun h => UInt8.toNat_inj.1 (by omega), fun h => by rw [h]⟩

/-! ### tokens, text bytes, letters -/
def tokN (c : Int) : Bool := decide (97 ≤ c ∧ c ≤ 122) || decide (65 ≤ c ∧ c ≤ 90) || decide (48 ≤ c ∧ c ≤ 57) || ([33, 35, 36, 37, 38, 39, 42, 43, 45, 46, 94, 95, 96, 124, 126] : List Int).contains c
def txtN (c : Int) : Bool := decide (c = 9) || (decide (32 ≤ c) && !decide (c = 127))
def lowN (c : Int) : Int := if 65 ≤ c ∧ c ≤ 90 then c + 32 else c
def tokB (c : UInt8) : Bool := tokN (c.toNat : Int)
def txtB (c : UInt8) : Bool := txtN (c.toNat : Int)
def lowB (c : UInt8) : UInt8 := UInt8.ofNat (lowN (c.toNat : Int)).toNat
theorem lowB_nat (c : UInt8) : ((lowB c).toNat : Int) = lowN (c.toNat : Int) := by
  have := c.toNat_lt
  unfold lowB lowN
  rw [UInt8.toNat_ofNat']
  split <;> omega
def isTok (l : List UInt8) : Bool := !l.isEmpty && l.all tokB
def isTxt (l : List UInt8) : Bool := l.all txtB
def trimT (l : List UInt8) : List UInt8 := Lib.trimS l [32, 9]
def low (l : List UInt8) : List UInt8 := l.map lowB
def sameL (a b : List UInt8) : Bool := low a == low b
theorem sameL_iff (a b : List UInt8) : sameL a b = true ↔ low a = low b := by unfold sameL; exact beq_iff_eq
theorem trimT_le (l : List UInt8) : (trimT l).length ≤ l.length := by
  unfold trimT Lib.trimS Lib.trimLeftS Lib.trimRightS
  refine Nat.le_trans (List.dropWhile_sublist _).length_le ?_
  rw [List.length_reverse]
  refine Nat.le_trans (List.dropWhile_sublist _).length_le ?_
  rw [List.length_reverse]; exact Nat.le_refl _

/-! ### fields -/
structure Fd where
  n : ByteArray
  v : ByteArray
def Fd.zero : Fd := ⟨⟨#[]⟩, ⟨#[]⟩⟩
structure Fd.Ok (f : Fd) : Prop where
  n : f.n.size ≤ 9223372036854775807
  v : f.v.size ≤ 9223372036854775807
/-- at the first byte b: what is ahead of it, what is behind it -/
def cutB (b : UInt8) : List UInt8 → Option (List UInt8 × List UInt8)
  | [] => none
  | c :: l => if c = b then some ([], l) else (cutB b l).map fun x => (c :: x.1, x.2)
theorem cutB_some {b : UInt8} : ∀ {l x y : List UInt8}, cutB b l = some (x, y) → l = x ++ b :: y ∧ b ∉ x
  | [], x, y, h => by simp [cutB] at h
  | c :: l, x, y, h => by
    unfold cutB at h
    split at h
    · rename_i hc
      simp at h
      obtain ⟨rfl, rfl⟩ := h
      subst hc
      exact ⟨rfl, by simp⟩
    · rename_i hc
      cases hq : cutB b l with
      | none => rw [hq] at h; simp at h
      | some p =>
        rw [hq] at h
        simp at h
        obtain ⟨rfl, rfl⟩ := h
        obtain ⟨e1, e2⟩ := cutB_some (x := p.1) (y := p.2) hq
        refine ⟨by rw [e1]; rfl, ?_⟩
        simp only [List.mem_cons, not_or]
        exact ⟨fun e => hc e.symm, e2⟩
theorem cutB_none {b : UInt8} : ∀ {l : List UInt8}, cutB b l = none ↔ b ∉ l
  | [] => by simp [cutB]
  | c :: l => by
    unfold cutB
    split
    · rename_i hc; subst hc; simp
    · rename_i hc
      rw [Option.map_eq_none_iff, cutB_none, List.mem_cons, not_or]
      exact ⟨fun h => ⟨fun e => hc e.symm, h⟩, fun h => h.2⟩
theorem cutB_of {b : UInt8} : ∀ {x y : List UInt8}, b ∉ x → cutB b (x ++ b :: y) = some (x, y)
  | [], y, h => by simp [cutB]
  | c :: x, y, h => by
    have hc : ¬ c = b := fun e => h (by simp [e])
    have ih := cutB_of (x := x) (y := y) (fun e : b ∈ x => h (List.mem_cons_of_mem _ e))
    rw [List.cons_append, cutB, if_neg hc, ih]
    rfl
/-- the field of a line -/
def parseF (l : List UInt8) : Option Fd :=
  match cutB 58 l with
  | none => none
  | some (x, y) => if isTok x = true ∧ isTxt y = true then some ⟨tx x, tx (trimT y)⟩ else none
def printF (f : Fd) : List UInt8 := ls f.n ++ [58, 32] ++ ls f.v
def goodF (f : Fd) : Bool := isTok (ls f.n) && isTxt (ls f.v) && (trimT (ls f.v) == ls f.v)

/-! ### heads -/
/-- the line that a text begins with, without its end, and what is behind it; or what is wrong: 17, 4, 3 -/
def lineF (full : Bool) (l : List UInt8) : Except Int (List UInt8 × List UInt8) :=
  match cutB 10 l with
  | none => .error (if full = true then 4 else 17)
  | some (t, r) => if t.getLast? = some 13 ∧ (13 : UInt8) ∉ t.dropLast then .ok (t.dropLast, r) else .error 3
theorem crlf_iff (t : List UInt8) : (t.getLast? = some 13 ∧ (13 : UInt8) ∉ t.dropLast) ↔ ∃ x, t = x ++ [13] ∧ (13 : UInt8) ∉ x := by
  constructor
  · rintro ⟨h1, h2⟩
    obtain ⟨x, rfl⟩ := List.getLast?_eq_some_iff.1 h1
    exact ⟨x, rfl, by simpa using h2⟩
  · rintro ⟨x, rfl, h⟩
    simpa using h
theorem lineF_ok {full : Bool} {l x r : List UInt8} (h : lineF full l = .ok (x, r)) : l = x ++ 13 :: 10 :: r ∧ (13 : UInt8) ∉ x ∧ (10 : UInt8) ∉ x := by
  unfold lineF at h
  cases hq : cutB 10 l with
  | none => rw [hq] at h; cases h
  | some p =>
    obtain ⟨t, r'⟩ := p
    rw [hq] at h
    simp only at h
    split at h
    · rename_i hc
      obtain ⟨z, rfl, hz⟩ := (crlf_iff t).1 hc
      simp at h
      obtain ⟨rfl, rfl⟩ := h
      obtain ⟨e1, e2⟩ := cutB_some hq
      exact ⟨by rw [e1]; simp, hz, fun e => e2 (by simp [e])⟩
    · cases h
theorem lineF_nil {full : Bool} : lineF full [] = .error (if full = true then 4 else 17) := rfl
theorem lineF_len {full : Bool} {l x r : List UInt8} (h : lineF full l = .ok (x, r)) : l.length = x.length + 2 + r.length := by
  rw [(lineF_ok h).1]; simp; omega
theorem lineF_mk (full : Bool) {x : List UInt8} (r : List UInt8) (h3 : (13 : UInt8) ∉ x) (h0 : (10 : UInt8) ∉ x) : lineF full (x ++ 13 :: 10 :: r) = .ok (x, r) := by
  unfold lineF
  have e : x ++ 13 :: 10 :: r = (x ++ [13]) ++ 10 :: r := by simp
  rw [e, cutB_of (by simp [h0])]
  simp only
  rw [if_pos ((crlf_iff _).2 ⟨x, rfl, h3⟩)]
  simp
structure Out where
  err : Int
  list : List Fd
  n : Nat
/-- the fields of the lines l, the first of which begins at at, behind the fields acc -/
def fldF (full : Bool) (l : List UInt8) (at_ : Nat) (acc : List Fd) : Out :=
  match h : lineF full l with
  | .error e => ⟨e, [], 0⟩
  | .ok (x, r) =>
    if x = [] then ⟨0, acc, at_ + 2⟩
    else match parseF x with
      | none => ⟨3, [], 0⟩
      | some f => if acc.length = 32 then ⟨4, [], 0⟩ else fldF full r (at_ + x.length + 2) (acc ++ [f])
termination_by l.length
decreasing_by
  have := lineF_len h
  omega
theorem fldF_eq (full : Bool) (l : List UInt8) (at_ : Nat) (acc : List Fd) : fldF full l at_ acc =
    match lineF full l with
    | .error e => ⟨e, [], 0⟩
    | .ok (x, r) =>
      if x = [] then ⟨0, acc, at_ + 2⟩
      else match parseF x with
        | none => ⟨3, [], 0⟩
        | some f => if acc.length = 32 then ⟨4, [], 0⟩ else fldF full r (at_ + x.length + 2) (acc ++ [f]) := by
  rw [fldF]
  split <;> rename_i h
  · rw [h]
  · rw [h]
theorem fldF_err {full : Bool} {l : List UInt8} (at_ : Nat) (acc : List Fd) {e : Int} (h : lineF full l = .error e) : fldF full l at_ acc = ⟨e, [], 0⟩ := by
  rw [fldF_eq, h]
theorem fldF_end {full : Bool} {l r : List UInt8} (at_ : Nat) (acc : List Fd) (h : lineF full l = .ok ([], r)) : fldF full l at_ acc = ⟨0, acc, at_ + 2⟩ := by
  rw [fldF_eq, h]; rfl
theorem fldF_form {full : Bool} {l x r : List UInt8} (at_ : Nat) (acc : List Fd) (h : lineF full l = .ok (x, r)) (hx : x ≠ []) (hp : parseF x = none) : fldF full l at_ acc = ⟨3, [], 0⟩ := by
  rw [fldF_eq, h]; simp only; rw [if_neg hx, hp]
theorem fldF_long {full : Bool} {l x r : List UInt8} {f : Fd} (at_ : Nat) (acc : List Fd) (h : lineF full l = .ok (x, r)) (hx : x ≠ []) (hp : parseF x = some f) (hl : acc.length = 32) : fldF full l at_ acc = ⟨4, [], 0⟩ := by
  rw [fldF_eq, h]; simp only; rw [if_neg hx, hp]; simp only; rw [if_pos hl]
theorem fldF_step {full : Bool} {l x r : List UInt8} {f : Fd} (at_ : Nat) (acc : List Fd) (h : lineF full l = .ok (x, r)) (hx : x ≠ []) (hp : parseF x = some f) (hl : acc.length ≠ 32) : fldF full l at_ acc = fldF full r (at_ + x.length + 2) (acc ++ [f]) := by
  rw [fldF_eq, h]; simp only; rw [if_neg hx, hp]; simp only; rw [if_neg hl]
/-- a text's head -/
structure Hd where
  err : Int
  start : List UInt8
  list : List Fd
  n : Nat
def spl (s : List UInt8) : Hd :=
  match lineF (decide (4096 ≤ s.length)) (s.take 4096) with
  | .error e => ⟨e, [], [], 0⟩
  | .ok (x, r) =>
    if x = [] then ⟨3, [], [], 0⟩
    else if 1024 < x.length then ⟨4, [], [], 0⟩
    else
      let o := fldF (decide (4096 ≤ s.length)) r (x.length + 2) []
      ⟨o.err, if o.err = 0 then x else [], o.list, o.n⟩

/-! ### whatever comes later -/
theorem lineF_more {l : List UInt8} (q : List UInt8) (full : Bool) {x : List UInt8 × List UInt8} (h : lineF false l = .ok x) : lineF full (l ++ q) = .ok (x.1, x.2 ++ q) := by
  obtain ⟨x, r⟩ := x
  obtain ⟨e, h3, h0⟩ := lineF_ok h
  rw [e]
  have := lineF_mk full (r ++ q) h3 h0
  simpa using this
theorem lineF_bad {l : List UInt8} (q : List UInt8) (full : Bool) {e : Int} (h : lineF false l = .error e) (h17 : e ≠ 17) : lineF full (l ++ q) = .error e := by
  unfold lineF at h ⊢
  cases hq : cutB 10 l with
  | none => rw [hq] at h; simp at h; exact absurd h.symm h17
  | some p =>
    obtain ⟨t, r⟩ := p
    rw [hq] at h
    obtain ⟨e1, e2⟩ := cutB_some hq
    have : cutB 10 (l ++ q) = some (t, r ++ q) := by rw [e1, List.append_assoc, List.cons_append, cutB_of e2]
    rw [this]
    simp only at h ⊢
    split
    · rename_i hc; rw [if_pos hc] at h; cases h
    · rename_i hc; rw [if_neg hc] at h; exact h
theorem fldF_more (q : List UInt8) (full : Bool) : ∀ (k : Nat) (l : List UInt8), l.length ≤ k → ∀ (at_ : Nat) (acc : List Fd), (fldF false l at_ acc).err ≠ 17 → fldF full (l ++ q) at_ acc = fldF false l at_ acc := by
  intro k
  induction k with
  | zero =>
    intro l hl at_ acc h
    have : l = [] := List.eq_nil_of_length_eq_zero (by omega)
    subst this
    exact absurd (by rw [fldF_err at_ acc lineF_nil]; rfl) h
  | succ k ih =>
    intro l hl at_ acc h
    cases hq : lineF false l with
    | error e =>
      rw [fldF_err at_ acc hq] at h ⊢
      exact fldF_err at_ acc (lineF_bad q full hq h)
    | ok p =>
      obtain ⟨x, r⟩ := p
      have hm := lineF_more q full hq
      simp only at hm
      have hlen := lineF_len hq
      by_cases hx : x = []
      · subst hx
        rw [fldF_end at_ acc hq, fldF_end at_ acc hm]
      · cases hp : parseF x with
        | none => rw [fldF_form at_ acc hq hx hp, fldF_form at_ acc hm hx hp]
        | some f =>
          by_cases hc : acc.length = 32
          · rw [fldF_long at_ acc hq hx hp hc, fldF_long at_ acc hm hx hp hc]
          · rw [fldF_step at_ acc hq hx hp hc] at h ⊢
            rw [fldF_step at_ acc hm hx hp hc]
            exact ih r (by omega) _ _ h
/-- more bytes make another answer only of what is too short -/
theorem spl_more (p q : List UInt8) (h : (spl p).err ≠ 17) : spl (p ++ q) = spl p := by
  by_cases hl : 4096 ≤ p.length
  · unfold spl
    rw [List.take_append_of_le_length hl, decide_eq_true hl, decide_eq_true (show 4096 ≤ (p ++ q).length by simp; omega)]
  · have e1 : p.take 4096 = p := List.take_of_length_le (by omega)
    have e2 : (p ++ q).take 4096 = p ++ q.take (4096 - p.length) := by
      rw [List.take_append, e1]
    unfold spl at h ⊢
    rw [e1, decide_eq_false hl] at h ⊢
    rw [e2]
    generalize decide (4096 ≤ (p ++ q).length) = full
    generalize q.take (4096 - p.length) = q'
    cases hq : lineF false p with
    | error e =>
      rw [hq] at h
      rw [lineF_bad q' full hq h]
    | ok y =>
      obtain ⟨x, r⟩ := y
      rw [hq] at h
      rw [lineF_more q' full hq]
      simp only at h ⊢
      by_cases hx : x = []
      · rw [if_pos hx, if_pos hx]
      · rw [if_neg hx] at h
        rw [if_neg hx, if_neg hx]
        by_cases hc : 1024 < x.length
        · rw [if_pos hc, if_pos hc]
        · rw [if_neg hc] at h
          rw [if_neg hc, if_neg hc, fldF_more q' full _ r (Nat.le_refl _) _ _ h]
theorem fldF_n (full : Bool) : ∀ (k : Nat) (l : List UInt8), l.length ≤ k → ∀ (at_ : Nat) (acc : List Fd), (fldF full l at_ acc).n ≤ at_ + l.length := by
  intro k
  induction k with
  | zero =>
    intro l hl at_ acc
    have : l = [] := List.eq_nil_of_length_eq_zero (by omega)
    subst this
    rw [fldF_eq]
    rw [lineF_nil]
    simp
  | succ k ih =>
    intro l hl at_ acc
    cases hq : lineF full l with
    | error e => rw [fldF_err at_ acc hq]; simp
    | ok p =>
      obtain ⟨x, r⟩ := p
      have hlen := lineF_len hq
      by_cases hx : x = []
      · subst hx; rw [fldF_end at_ acc hq]; simp; omega
      · cases hp : parseF x with
        | none => rw [fldF_form at_ acc hq hx hp]; simp
        | some f =>
          by_cases hc : acc.length = 32
          · rw [fldF_long at_ acc hq hx hp hc]; simp
          · rw [fldF_step at_ acc hq hx hp hc]
            have := ih r (by omega) (at_ + x.length + 2) (acc ++ [f])
            omega
theorem spl_n (s : List UInt8) : (spl s).n ≤ s.length := by
  unfold spl
  cases hq : lineF (decide (4096 ≤ s.length)) (s.take 4096) with
  | error e => simp
  | ok p =>
    obtain ⟨x, r⟩ := p
    have hlen := lineF_len hq
    rw [List.length_take] at hlen
    simp only
    by_cases hx : x = []
    · rw [if_pos hx]; simp
    · rw [if_neg hx]
      by_cases hc : 1024 < x.length
      · rw [if_pos hc]; simp
      · rw [if_neg hc]
        have := fldF_n (decide (4096 ≤ s.length)) _ r (Nat.le_refl _) (x.length + 2) []
        simp only
        omega
theorem fldF_zero (full : Bool) : ∀ (k : Nat) (l : List UInt8), l.length ≤ k → ∀ (at_ : Nat) (acc : List Fd), (fldF full l at_ acc).err = 0 → at_ + 2 ≤ (fldF full l at_ acc).n := by
  intro k
  induction k with
  | zero =>
    intro l hl at_ acc h
    have : l = [] := List.eq_nil_of_length_eq_zero (by omega)
    subst this
    exfalso
    rw [fldF_err at_ acc lineF_nil] at h
    simp only at h
    split at h <;> cases h
  | succ k ih =>
    intro l hl at_ acc h
    cases hq : lineF full l with
    | error e =>
      rw [fldF_err at_ acc hq] at h
      exfalso
      simp only at h
      subst h
      unfold lineF at hq
      split at hq
      · split at hq <;> simp at hq
      · split at hq <;> simp at hq
    | ok p =>
      obtain ⟨x, r⟩ := p
      have hlen := lineF_len hq
      by_cases hx : x = []
      · subst hx; rw [fldF_end at_ acc hq]; exact Nat.le_refl _
      · cases hp : parseF x with
        | none => rw [fldF_form at_ acc hq hx hp] at h; cases h
        | some f =>
          by_cases hc : acc.length = 32
          · rw [fldF_long at_ acc hq hx hp hc] at h; cases h
          · rw [fldF_step at_ acc hq hx hp hc] at h ⊢
            have := ih r (by omega) (at_ + x.length + 2) (acc ++ [f]) h
            omega

/-! ### what was written is read -/
theorem tok_free {l : List UInt8} (h : isTok l = true) {b : UInt8} (hb : tokB b = false) : b ∉ l := by
  intro hm
  unfold isTok at h
  rw [Bool.and_eq_true, List.all_eq_true] at h
  have := h.2 b hm
  rw [hb] at this; cases this
theorem txt_free {l : List UInt8} (h : isTxt l = true) {b : UInt8} (hb : txtB b = false) : b ∉ l := by
  intro hm
  unfold isTxt at h
  rw [List.all_eq_true] at h
  have := h b hm
  rw [hb] at this; cases this
theorem trim_blank (l : List UInt8) : trimT (32 :: l) = trimT l := by
  unfold trimT Lib.trimS Lib.trimRightS Lib.trimLeftS
  rw [List.reverse_cons, List.dropWhile_append]
  split
  · rename_i h
    rw [List.isEmpty_iff.1 h]
    rfl
  · rename_i h
    rw [List.reverse_append]
    simp [List.dropWhile_cons]
structure Good (f : Fd) : Prop where
  n : isTok (ls f.n) = true
  v : isTxt (ls f.v) = true
  t : trimT (ls f.v) = ls f.v
theorem good_iff (f : Fd) : goodF f = true ↔ Good f := by
  unfold goodF
  rw [Bool.and_eq_true, Bool.and_eq_true, beq_iff_eq]
  exact ⟨fun h => ⟨h.1.1, h.1.2, h.2⟩, fun h => ⟨⟨h.n, h.v⟩, h.t⟩⟩
theorem Good.free {f : Fd} (h : Good f) (b : UInt8) (h1 : tokB b = false) (h2 : txtB b = false) (h3 : b ≠ 58) (h4 : b ≠ 32) : b ∉ printF f := by
  unfold printF
  simp only [List.mem_append, List.mem_cons, List.not_mem_nil, or_false, not_or]
  exact ⟨⟨tok_free h.n h1, h3, h4⟩, txt_free h.v h2⟩
theorem Good.parse {f : Fd} (h : Good f) : parseF (printF f) = some f := by
  unfold parseF printF
  rw [List.append_assoc, List.cons_append, cutB_of (tok_free h.n (by decide))]
  simp only
  have hx : isTxt ([32] ++ ls f.v) = true := by
    have := h.v
    unfold isTxt at this ⊢
    rw [List.all_append, this]; rfl
  rw [if_pos ⟨h.n, hx⟩]
  rw [show [32] ++ ls f.v = 32 :: ls f.v from rfl, trim_blank, h.t, tx_ls, tx_ls]
theorem Good.ne {f : Fd} : printF f ≠ [] := by unfold printF; simp
/-- the lines of fields -/
def linesF : List Fd → List UInt8
  | [] => []
  | f :: l => printF f ++ 13 :: 10 :: linesF l
theorem linesF_append : ∀ (a b : List Fd), linesF (a ++ b) = linesF a ++ linesF b
  | [], b => rfl
  | f :: a, b => by simp [linesF, linesF_append a b]
theorem fldF_lines (full : Bool) : ∀ (l : List Fd), (∀ f ∈ l, Good f) → ∀ (at_ : Nat) (acc : List Fd), acc.length + l.length ≤ 32 → fldF full (linesF l ++ [13, 10]) at_ acc = ⟨0, acc ++ l, at_ + (linesF l).length + 2⟩
  | [], _, at_, acc, _ => by
    have := fldF_end (full := full) (l := [13, 10]) (r := []) at_ acc (lineF_mk full (x := []) [] (by simp) (by simp))
    simpa [linesF] using this
  | f :: l, hg, at_, acc, hl => by
    have g := hg f (by simp)
    simp only [List.length_cons] at hl
    have e : linesF (f :: l) ++ [13, 10] = printF f ++ 13 :: 10 :: (linesF l ++ [13, 10]) := by simp [linesF]
    rw [e, fldF_step at_ acc (lineF_mk full _ (g.free 13 (by decide) (by decide) (by decide) (by decide)) (g.free 10 (by decide) (by decide) (by decide) (by decide))) Good.ne g.parse (by omega)]
    rw [fldF_lines full l (fun x hx => hg x (by simp [hx])) _ _ (by simp; omega)]
    simp [linesF]; omega
def headF (st : List UInt8) (l : List Fd) : List UInt8 := st ++ 13 :: 10 :: (linesF l ++ [13, 10])
theorem spl_head (st : List UInt8) (l : List Fd) (h0 : st ≠ []) (h1 : st.length ≤ 1024) (h3 : (13 : UInt8) ∉ st) (h4 : (10 : UInt8) ∉ st) (hg : ∀ f ∈ l, Good f) (hl : l.length ≤ 32) (hs : (headF st l).length ≤ 4096) :
    spl (headF st l) = ⟨0, st, l, (headF st l).length⟩ := by
  unfold spl
  rw [List.take_of_length_le hs]
  generalize decide (4096 ≤ (headF st l).length) = full
  unfold headF
  rw [lineF_mk full _ h3 h4]
  simp only
  rw [if_neg h0, if_neg (by omega), fldF_lines full l hg _ _ (by simpa using hl)]
  simp
  omega
theorem spl_cut (st : List UInt8) (l : List Fd) (h : spl (headF st l) = ⟨0, st, l, (headF st l).length⟩) (k : Nat) (hk : k < (headF st l).length) : (spl ((headF st l).take k)).err = 17 := by
  by_cases c : (spl ((headF st l).take k)).err = 17
  · exact c
  · have := spl_more _ ((headF st l).drop k) c
    rw [List.take_append_drop, h] at this
    have n := spl_n ((headF st l).take k)
    rw [← this, List.length_take] at n
    simp only at n
    omega
end Go.Proofs.YtdldoklkenhopaaDoor.Fi
end
