/-
  The machine that takes byte by byte, and the struct in memory: where they stand together; what a line comes to.
-/
import Derived.Test.YtdldoklkenhopaaGreatDoorChRead
import Derived.Test.YtdldoklkenhopaaGreatDoorChEnd
import Derived.Test.YtdldoklkenhopaaGreatDoorChGath
namespace Go.Proofs.YtdldoklkenhopaaGreatDoor.Ch
open Go.RowKit Go.PlainAid
open Hx Fi
set_option linter.unusedVariables false
set_option maxRecDepth 20000
set_option linter.unusedSimpArgs false

def MdAt : Md → C → Prop
  | .line acc, c => c.nx = 0 ∧ c.part = acc ∧ acc.length ≤ 255 ∧ c.fs = 0 ∧ c.rest = [] ∧ c.wr = 0
  | .data k, c => c.nx = 1 ∧ c.due = (k : Int) ∧ 0 < k ∧ c.part = [] ∧ c.fs = 0 ∧ c.rest = [] ∧ c.wr = 0
  | .cr, c => c.nx = 2 ∧ c.part = [] ∧ c.fs = 0 ∧ c.rest = [] ∧ c.wr = 0
  | .lf, c => c.nx = 2 ∧ c.part = [13] ∧ c.fs = 0 ∧ c.rest = [] ∧ c.wr = 0
  | .trail acc k, c => c.nx = 3 ∧ c.part = acc ∧ acc.length ≤ 255 ∧ c.fs = (k : Int) ∧ k ≤ 16 ∧ c.rest = [] ∧ c.wr = 0
  | .done r, c => c.nx = 4 ∧ c.rest = r ∧ c.wr = 0
  | .err e, c => (c.nx = 0 ∨ c.nx = 2 ∨ c.nx = 3) ∧ c.rest = [] ∧ c.wr = e ∧ (e = 3 ∨ e = 4)
/-- the struct c stands for the machine's state s -/
structure St (most : Nat) (s : CS) (c : C) : Prop where
  n : c.n = (s.n : Int)
  m : c.most = (most : Int)
  u : c.data = s.u
  at_ : MdAt s.md c
theorem St.wr {most : Nat} {s : CS} {c : C} (h : St most s c) : c.wr = s.md.error := by
  have := h.at_
  cases hm : s.md <;> rw [hm] at this <;> simp only [MdAt] at this <;> simp only [Md.error]
  · exact this.2.2.2.2.2
  · exact this.2.2.2.2.2.2
  · exact this.2.2.2.2
  · exact this.2.2.2.2
  · exact this.2.2.2.2.2.2
  · exact this.2.2
  · exact this.2.2.1
theorem St.rest {most : Nat} {s : CS} {c : C} (h : St most s c) : c.rest = s.md.rest := by
  have := h.at_
  cases hm : s.md <;> rw [hm] at this <;> simp only [MdAt] at this <;> simp only [Md.rest]
  · exact this.2.2.2.2.1
  · exact this.2.2.2.2.2.1
  · exact this.2.2.2.1
  · exact this.2.2.2.1
  · exact this.2.2.2.2.2.1
  · exact this.2.1
  · exact this.2.1
theorem St.done {most : Nat} {s : CS} {c : C} (h : St most s c) : (c.nx == 4) = s.md.isDone := by
  have := h.at_
  cases hm : s.md <;> rw [hm] at this <;> simp only [MdAt] at this <;> simp only [Md.isDone]
  · rw [this.1]; rfl
  · rw [this.1]; rfl
  · rw [this.1]; rfl
  · rw [this.1]; rfl
  · rw [this.1]; rfl
  · rw [this.1]; rfl
  · rcases this.1 with e | e | e <;> rw [e] <;> rfl

section
variable {w : World} {p : Nat} {x y z : Value} {Z : Nat → Prop} {c : C} {most : Nat}
/-- the number of a line without its end: what readSize leaves, once its answer is laid down -/
theorem readSize_st (H : ChAt w p x y z Z c) (hm3 : (most : Int) ≤ 9223372036854775807) {n : Nat} {u : List UInt8} (hn : n ≤ most) (h0 : c.nx = 0) (h1 : c.n = n) (h2 : c.most = most) (h3 : c.data = u) (h4 : c.part = []) (h5 : c.fs = 0) (h6 : c.rest = []) (t : List UInt8) (ht : t.length ≤ 255) :
    Calls Tryz.prog 64 #[.pointer (some ⟨p, 0, none⟩), .string (tx t)] w fun e w' => ∃ (e1 : Int) (c1 : C), e = .returned (.int .i64 e1) ∧ Post w w' p Z c1 ∧ St most ⟨endL most n (t ++ [13]), n, u⟩ { c1 with wr := e1 } := by
  obtain ⟨nx, ms, cn, due, part, data, fs, rest, wr⟩ := c
  simp only at h0 h1 h2 h3 h4 h5 h6
  subst h0 h1 h2 h3 h4 h5 h6
  have hL : endL most n (t ++ [13]) = match numF t ((most : Int) - (n : Int)) with
      | .error e => .err e
      | .ok 0 => .trail [] 0
      | .ok (k + 1) => .data (k + 1) := by
    unfold endL
    rw [if_pos (by simp), List.dropLast_concat]
    rfl
  have hs : (tx t).size ≤ 549755813888 := by rw [tx_size]; omega
  cases hq : numF t ((most : Int) - (n : Int)) with
  | error e0 =>
    rw [hq] at hL
    have he := numF_err hq
    refine (readSize_err H (tx t) hs (by omega) (by omega) hm3 (by rw [ls_tx]; exact hq) he).mono fun e w' ⟨h1, h2⟩ => ⟨e0, _, h1, h2, ?_⟩
    rw [hL]
    exact ⟨rfl, rfl, rfl, .inl rfl, rfl, rfl, he⟩
  | ok k =>
    rw [hq] at hL
    cases k with
    | zero =>
      refine (readSize_last H (tx t) hs (by omega) (by omega) hm3 (by rw [ls_tx]; exact hq)).mono fun e w' ⟨h1, h2⟩ => ⟨0, _, h1, h2, ?_⟩
      rw [hL]
      exact ⟨rfl, rfl, rfl, rfl, rfl, by decide, rfl, by decide, rfl, rfl⟩
    | succ k =>
      refine (readSize_more H (tx t) hs (by omega) (by omega) hm3 (by rw [ls_tx]; exact hq) (Nat.succ_pos k)).mono fun e w' ⟨h1, h2⟩ => ⟨0, _, h1, h2, ?_⟩
      rw [hL]
      exact ⟨rfl, rfl, rfl, rfl, rfl, Nat.succ_pos k, rfl, rfl, rfl, rfl⟩
/-- a line behind the last chunk -/
theorem readField_st (H : ChAt w p x y z Z c) {n k : Nat} {u : List UInt8} (hk : k ≤ 16) (h0 : c.nx = 3) (h1 : c.n = n) (h2 : c.most = most) (h3 : c.data = u) (h4 : c.part = []) (h5 : c.fs = k) (h6 : c.rest = []) (t : List UInt8) (ht : t.length ≤ 255) :
    Calls Tryz.prog 65 #[.pointer (some ⟨p, 0, none⟩), .string (tx t)] w fun e w' => ∃ (e1 : Int) (c1 : C), e = .returned (.int .i64 e1) ∧ Post w w' p Z c1 ∧ St most ⟨endT k (t ++ [13]), n, u⟩ { c1 with wr := e1 } := by
  obtain ⟨nx, ms, cn, due, part, data, fs, rest, wr⟩ := c
  simp only at h0 h1 h2 h3 h4 h5 h6
  subst h0 h1 h2 h3 h4 h5 h6
  have hL : endT k (t ++ [13]) = if t = [] then .done [] else if (parseF t).isSome = true then (if 16 ≤ k then .err 4 else .trail [] (k + 1)) else .err 3 := by
    unfold endT
    rw [if_pos (by simp), List.dropLast_concat]
  have hs : (tx t).size ≤ 549755813888 := by rw [tx_size]; omega
  by_cases e0 : t = []
  · rw [if_pos e0] at hL
    refine (readField_end H (tx t) hs (by rw [tx_size, e0]; rfl)).mono fun e w' ⟨h1, h2⟩ => ⟨0, _, h1, h2, ?_⟩
    rw [hL]
    exact ⟨rfl, rfl, rfl, rfl, rfl, rfl⟩
  · rw [if_neg e0] at hL
    have hpos : 0 < (tx t).size := by rw [tx_size]; exact List.length_pos_iff.2 e0
    cases hp : parseF t with
    | none =>
      rw [hp, if_neg (by simp)] at hL
      refine (readField_form H (tx t) hs hpos (by rw [ls_tx]; exact hp)).mono fun e w' ⟨h1, h2⟩ => ⟨3, _, h1, h2, ?_⟩
      rw [hL]
      exact ⟨rfl, rfl, rfl, .inr (.inr rfl), rfl, rfl, .inl rfl⟩
    | some g =>
      rw [hp, if_pos (show (some g).isSome = true from rfl)] at hL
      by_cases c16 : 16 ≤ k
      · rw [if_pos c16] at hL
        refine (readField_long H (tx t) hs hpos (by rw [ls_tx]; exact hp) (by omega)).mono fun e w' ⟨h1, h2⟩ => ⟨4, _, h1, h2, ?_⟩
        rw [hL]
        exact ⟨rfl, rfl, rfl, .inr (.inr rfl), rfl, rfl, .inr rfl⟩
      · rw [if_neg c16] at hL
        refine (readField_one H (tx t) hs hpos (by rw [ls_tx]; exact hp) (by omega) (by omega)).mono fun e w' ⟨h1, h2⟩ => ⟨0, _, h1, h2, ?_⟩
        rw [hL]
        exact ⟨rfl, rfl, rfl, rfl, rfl, by decide, by simp, by omega, rfl, rfl⟩
/-- a line that is gathered: not yet whole, none, or whole -/
theorem gather_good (H : ChAt w p x y z Z c) (s : ByteArray) (hs : s.size ≤ 549755813888) (h0 : 0 < s.size) {l r t : List UInt8} (hs2 : ls s = l ++ 10 :: r) (h10 : (10 : UInt8) ∉ l) (hl : c.part.length + l.length ≤ 255) (h13 : c.part ++ l = t ++ [13]) :
    Calls Tryz.prog 63 #[.pointer (some ⟨p, 0, none⟩), .string s] w fun e w' => e = .returned (.tuple #[.string (tx t), .string (tx r), .int .i64 0]) ∧ Post w w' p Z { c with part := [] } := by
  by_cases hr : c.part.length + s.size < 256
  · exact gather_goodA H s hs h0 hr hs2 h10 hl h13
  · exact gather_goodB H s hs h0 (by omega) hs2 h10 hl h13
theorem gather_bad (H : ChAt w p x y z Z c) (s : ByteArray) (hs : s.size ≤ 549755813888) (h0 : 0 < s.size) {l r : List UInt8} (hs2 : ls s = l ++ 10 :: r) (h10 : (10 : UInt8) ∉ l) (hl : c.part.length + l.length ≤ 255) (h13 : (c.part ++ l).getLast? ≠ some 13) :
    Calls Tryz.prog 63 #[.pointer (some ⟨p, 0, none⟩), .string s] w fun e w' => e = .returned (.tuple #[.string ⟨#[]⟩, .string ⟨#[]⟩, .int .i64 3]) ∧ Post w w' p Z { c with part := [] } := by
  by_cases hr : c.part.length + s.size < 256
  · exact gather_badA H s hs h0 hr hs2 h10 hl h13
  · exact gather_badB H s hs h0 (by omega) hs2 h10 hl h13
/-- the line that a text begins with, behind what has come of it -/
theorem line_cases (acc l : List UInt8) (ha : acc.length ≤ 255) : ((10 : UInt8) ∉ l ∧ acc.length + l.length < 256) ∨ ((10 : UInt8) ∉ l.take (256 - acc.length) ∧ 256 ≤ acc.length + l.length) ∨ ∃ q r, l = q ++ 10 :: r ∧ (10 : UInt8) ∉ q ∧ acc.length + q.length ≤ 255 := by
  cases hc : cutB 10 (l.take (256 - acc.length)) with
  | none =>
    have hn := cutB_none.1 hc
    by_cases h : acc.length + l.length < 256
    · rw [List.take_of_length_le (by omega)] at hn
      exact .inl ⟨hn, h⟩
    · exact .inr (.inl ⟨hn, by omega⟩)
  | some v =>
    obtain ⟨q, r⟩ := v
    obtain ⟨e, hq⟩ := cutB_some hc
    have hlen := congrArg List.length e
    rw [List.length_take, List.length_append, List.length_cons] at hlen
    refine .inr (.inr ⟨q, r ++ l.drop (256 - acc.length), ?_, hq, by omega⟩)
    rw [← List.cons_append, ← List.append_assoc, ← e, List.take_append_drop]
end
end Go.Proofs.YtdldoklkenhopaaGreatDoor.Ch
