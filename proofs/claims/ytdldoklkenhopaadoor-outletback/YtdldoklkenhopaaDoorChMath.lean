/-
  Bodies in chunks as plain lists of bytes: a machine that takes byte by byte; how a body is written. No program is spoken of.
-/
import Derived.Test.YtdldoklkenhopaaDoorSet1
import Derived.Test.YtdldoklkenhopaaDoorHxCount
namespace Go.Proofs.YtdldoklkenhopaaDoor.Ch
open Go.RowKit Go.PlainAid
open Hx Fi
set_option linter.unusedVariables false
set_option maxRecDepth 20000
set_option linter.unusedSimpArgs false

/-! ### the number of a chunk's line -/
def hexB (c : UInt8) : Bool := aok (c.toNat : Int)
/-- the digits that a text begins with, and what is behind them -/
def hxP (t : List UInt8) : List UInt8 := t.takeWhile hexB
def hxR (t : List UInt8) : List UInt8 := t.dropWhile hexB
/-- what may stand behind the number -/
def okR : List UInt8 → Bool
  | [] => true
  | c :: r => (c == 32 || c == 9 || c == 59) && isTxt (c :: r)
def numV (t : List UInt8) : Int := hexTo (tx (hxP t)) (hxP t).length
/-- the number of a line, of at most m; what is wrong -/
def numF (t : List UInt8) (m : Int) : Except Int Nat :=
  if okR (hxR t) = true ∧ 0 < (hxP t).length ∧ (hxP t).length ≤ 16 then
    (if 0 ≤ m ∧ numV t ≤ m ∧ numV t ≤ 4611686018427387904 then .ok (numV t).toNat else .error 4)
  else .error 3
theorem numV_nonneg (t : List UInt8) : 0 ≤ numV t := (hexTo_bd _ _).1
theorem numF_ok {t : List UInt8} {m : Int} {n : Nat} (h : numF t m = .ok n) : (n : Int) ≤ m ∧ (n : Int) ≤ 4611686018427387904 := by
  unfold numF at h
  split at h
  · split at h
    · rename_i h1 h2
      have := numV_nonneg t
      injection h with h
      omega
    · cases h
  · cases h
theorem numF_err {t : List UInt8} {m : Int} {e : Int} (h : numF t m = .error e) : e = 3 ∨ e = 4 := by
  unfold numF at h
  split at h
  · split at h
    · cases h
    · injection h with h; exact .inr h.symm
  · injection h with h; exact .inl h.symm
theorem takeW_all {p : UInt8 → Bool} : ∀ {l : List UInt8}, (∀ c ∈ l, p c = true) → l.takeWhile p = l ∧ l.dropWhile p = []
  | [], _ => ⟨rfl, rfl⟩
  | c :: l, h => by
    have ih := takeW_all (l := l) (fun x hx => h x (List.mem_cons_of_mem _ hx))
    have hc := h c (List.mem_cons_self ..)
    simp [List.takeWhile_cons, List.dropWhile_cons, hc, ih.1, ih.2]
theorem numF_digits (n : Nat) (m : Int) (h1 : (n : Int) ≤ 4611686018427387904) : numF (digL 14 n) m = if (n : Int) ≤ m then .ok n else .error 4 := by
  have ha : ∀ c ∈ digL 14 n, hexB c = true := fun c hc => by
    obtain ⟨d, h0, e⟩ := digL_mem 14 n c hc
    rw [e]; exact aok_hd d (by omega)
  obtain ⟨e1, e2⟩ := takeW_all ha
  have hf := hex_form n (by omega)
  have hl : (digL 14 n).length ≤ 16 := by
    have := hf.2.1
    rwa [size_mk] at this
  have hv : numV (digL 14 n) = n := by
    unfold numV hxP
    rw [e1]
    exact hex_val n
  unfold numF
  rw [hv]
  unfold hxP hxR
  rw [e1, e2, if_pos ⟨rfl, digL_ne 14 n, hl⟩]
  by_cases c : (n : Int) ≤ m
  · rw [if_pos ⟨by omega, c, h1⟩, if_pos c]; rfl
  · rw [if_neg (fun x => c x.2.1), if_neg c]

/-! ### the machine -/
inductive Md where
  | line (acc : List UInt8)
  | data (n : Nat)
  | cr
  | lf
  | trail (acc : List UInt8) (k : Nat)
  | done (rest : List UInt8)
  | err (e : Int)
/-- where it stands; how many bytes of data there were; the data that wasn't taken -/
structure CS where
  md : Md
  n : Nat
  u : List UInt8
/-- behind a chunk's line; acc is what is ahead of its last byte -/
def endL (most : Nat) (n : Nat) (acc : List UInt8) : Md :=
  if acc.getLast? = some 13 then
    match numF acc.dropLast ((most : Int) - (n : Int)) with
    | .error e => .err e
    | .ok 0 => .trail [] 0
    | .ok (k + 1) => .data (k + 1)
  else .err 3
/-- behind a line of the end -/
def endT (k : Nat) (acc : List UInt8) : Md :=
  if acc.getLast? = some 13 then
    (if acc.dropLast = [] then .done []
    else if (parseF acc.dropLast).isSome = true then (if 16 ≤ k then .err 4 else .trail [] (k + 1)) else .err 3)
  else .err 3
def stepB (most : Nat) (s : CS) (b : UInt8) : CS :=
  match s.md with
  | .line acc => if b = 10 then ⟨endL most s.n acc, s.n, s.u⟩ else if 255 ≤ acc.length then ⟨.err 3, s.n, s.u⟩ else ⟨.line (acc ++ [b]), s.n, s.u⟩
  | .data k => ⟨if k ≤ 1 then .cr else .data (k - 1), s.n + 1, s.u ++ [b]⟩
  | .cr => ⟨if b = 13 then .lf else .err 3, s.n, s.u⟩
  | .lf => ⟨if b = 10 then .line [] else .err 3, s.n, s.u⟩
  | .trail acc k => if b = 10 then ⟨endT k acc, s.n, s.u⟩ else if 255 ≤ acc.length then ⟨.err 3, s.n, s.u⟩ else ⟨.trail (acc ++ [b]) k, s.n, s.u⟩
  | .done r => ⟨.done (r ++ [b]), s.n, s.u⟩
  | .err e => s
def run (most : Nat) (s : CS) (l : List UInt8) : CS := l.foldl (stepB most) s
def init : CS := ⟨.line [], 0, []⟩
section
variable {most : Nat}
theorem run_nil (s : CS) : run most s [] = s := rfl
theorem run_cons (s : CS) (b : UInt8) (l : List UInt8) : run most s (b :: l) = run most (stepB most s b) l := rfl
theorem run_append (s : CS) (l r : List UInt8) : run most s (l ++ r) = run most (run most s l) r := List.foldl_append
theorem run_err (e : Int) (n : Nat) (u : List UInt8) : ∀ l, run most ⟨.err e, n, u⟩ l = ⟨.err e, n, u⟩
  | [] => rfl
  | b :: l => by rw [run_cons]; exact run_err e n u l
theorem run_done (n : Nat) (u : List UInt8) : ∀ (l r : List UInt8), run most ⟨.done r, n, u⟩ l = ⟨.done (r ++ l), n, u⟩
  | [], r => by rw [run_nil, List.append_nil]
  | b :: l, r => by
    rw [run_cons]
    show run most ⟨.done (r ++ [b]), n, u⟩ l = _
    rw [run_done n u l, List.append_assoc]; rfl
/-- a line under way -/
theorem run_line (n : Nat) (u : List UInt8) : ∀ (l acc : List UInt8), (10 : UInt8) ∉ l → acc.length + l.length ≤ 255 → run most ⟨.line acc, n, u⟩ l = ⟨.line (acc ++ l), n, u⟩
  | [], acc, _, _ => by rw [run_nil, List.append_nil]
  | b :: l, acc, h, hl => by
    simp only [List.length_cons, List.mem_cons, not_or] at h hl
    rw [run_cons]
    have e : stepB most ⟨.line acc, n, u⟩ b = ⟨.line (acc ++ [b]), n, u⟩ := by
      show (if b = 10 then _ else if 255 ≤ acc.length then _ else _) = _
      rw [if_neg (fun x => h.1 x.symm), if_neg (by omega)]
    rw [e, run_line n u l _ h.2 (by simp; omega), List.append_assoc]; rfl
theorem run_line_long (n : Nat) (u : List UInt8) : ∀ (l acc : List UInt8), (10 : UInt8) ∉ l.take (256 - acc.length) → acc.length ≤ 255 → 256 ≤ acc.length + l.length → run most ⟨.line acc, n, u⟩ l = ⟨.err 3, n, u⟩
  | [], acc, _, h1, h2 => by simp at h2; omega
  | b :: l, acc, h, h1, h2 => by
    rw [show 256 - acc.length = (255 - acc.length) + 1 by omega, List.take_succ_cons] at h
    simp only [List.length_cons, List.mem_cons, not_or] at h h2
    rw [run_cons]
    by_cases c : 255 ≤ acc.length
    · have e : stepB most ⟨.line acc, n, u⟩ b = ⟨.err 3, n, u⟩ := by
        show (if b = 10 then _ else if 255 ≤ acc.length then _ else _) = _
        rw [if_neg (fun x => h.1 x.symm), if_pos c]
      rw [e, run_err]
    · have e : stepB most ⟨.line acc, n, u⟩ b = ⟨.line (acc ++ [b]), n, u⟩ := by
        show (if b = 10 then _ else if 255 ≤ acc.length then _ else _) = _
        rw [if_neg (fun x => h.1 x.symm), if_neg c]
      rw [e]
      exact run_line_long n u l _ (by rw [List.length_append, List.length_singleton, show 256 - (acc.length + 1) = 255 - acc.length by omega]; exact h.2) (by simp; omega) (by simp; omega)
theorem run_line_end (n : Nat) (u l r : List UInt8) (acc : List UInt8) (h : (10 : UInt8) ∉ l) (hl : acc.length + l.length ≤ 255) : run most ⟨.line acc, n, u⟩ (l ++ 10 :: r) = run most ⟨endL most n (acc ++ l), n, u⟩ r := by
  rw [run_append, run_line n u l acc h hl, run_cons]; rfl
theorem run_trail (n : Nat) (u : List UInt8) (k : Nat) : ∀ (l acc : List UInt8), (10 : UInt8) ∉ l → acc.length + l.length ≤ 255 → run most ⟨.trail acc k, n, u⟩ l = ⟨.trail (acc ++ l) k, n, u⟩
  | [], acc, _, _ => by rw [run_nil, List.append_nil]
  | b :: l, acc, h, hl => by
    simp only [List.length_cons, List.mem_cons, not_or] at h hl
    rw [run_cons]
    have e : stepB most ⟨.trail acc k, n, u⟩ b = ⟨.trail (acc ++ [b]) k, n, u⟩ := by
      show (if b = 10 then _ else if 255 ≤ acc.length then _ else _) = _
      rw [if_neg (fun x => h.1 x.symm), if_neg (by omega)]
    rw [e, run_trail n u k l _ h.2 (by simp; omega), List.append_assoc]; rfl
theorem run_trail_long (n : Nat) (u : List UInt8) (k : Nat) : ∀ (l acc : List UInt8), (10 : UInt8) ∉ l.take (256 - acc.length) → acc.length ≤ 255 → 256 ≤ acc.length + l.length → run most ⟨.trail acc k, n, u⟩ l = ⟨.err 3, n, u⟩
  | [], acc, _, h1, h2 => by simp at h2; omega
  | b :: l, acc, h, h1, h2 => by
    rw [show 256 - acc.length = (255 - acc.length) + 1 by omega, List.take_succ_cons] at h
    simp only [List.length_cons, List.mem_cons, not_or] at h h2
    rw [run_cons]
    by_cases c : 255 ≤ acc.length
    · have e : stepB most ⟨.trail acc k, n, u⟩ b = ⟨.err 3, n, u⟩ := by
        show (if b = 10 then _ else if 255 ≤ acc.length then _ else _) = _
        rw [if_neg (fun x => h.1 x.symm), if_pos c]
      rw [e, run_err]
    · have e : stepB most ⟨.trail acc k, n, u⟩ b = ⟨.trail (acc ++ [b]) k, n, u⟩ := by
        show (if b = 10 then _ else if 255 ≤ acc.length then _ else _) = _
        rw [if_neg (fun x => h.1 x.symm), if_neg c]
      rw [e]
      exact run_trail_long n u k l _ (by rw [List.length_append, List.length_singleton, show 256 - (acc.length + 1) = 255 - acc.length by omega]; exact h.2) (by simp; omega) (by simp; omega)
theorem run_trail_end (n : Nat) (u l r : List UInt8) (k : Nat) (acc : List UInt8) (h : (10 : UInt8) ∉ l) (hl : acc.length + l.length ≤ 255) : run most ⟨.trail acc k, n, u⟩ (l ++ 10 :: r) = run most ⟨endT k (acc ++ l), n, u⟩ r := by
  rw [run_append, run_trail n u k l acc h hl, run_cons]; rfl
/-- data under way -/
theorem run_data (n : Nat) (u : List UInt8) : ∀ (l : List UInt8) (n : Nat) (u : List UInt8) (k : Nat), l.length < k → run most ⟨.data k, n, u⟩ l = ⟨.data (k - l.length), n + l.length, u ++ l⟩
  | [], n, u, k, h => by rw [run_nil, List.append_nil]; rfl
  | b :: l, n, u, k, h => by
    simp only [List.length_cons] at h
    rw [run_cons]
    have e : stepB most ⟨.data k, n, u⟩ b = ⟨.data (k - 1), n + 1, u ++ [b]⟩ := by
      show (⟨if k ≤ 1 then .cr else .data (k - 1), n + 1, u ++ [b]⟩ : CS) = _
      rw [if_neg (by omega)]
    rw [e, run_data n u l (n + 1) _ (k - 1) (by omega), List.append_assoc, List.length_cons, show k - 1 - l.length = k - (l.length + 1) by omega, show n + 1 + l.length = n + (l.length + 1) by omega]
    rfl
theorem run_data_all (l : List UInt8) (n : Nat) (u : List UInt8) (k : Nat) (h : l.length = k) (h0 : 0 < k) : run most ⟨.data k, n, u⟩ l = ⟨.cr, n + k, u ++ l⟩ := by
  obtain ⟨m, c, rfl⟩ : ∃ m c, l = m ++ [c] := ⟨l.dropLast, l.getLast (by intro e; subst e; simp at h; omega), (List.dropLast_concat_getLast _).symm⟩
  simp at h
  rw [run_append, run_data n u m n u k (by omega), run_cons, run_nil]
  show (⟨if k - m.length ≤ 1 then .cr else .data (k - m.length - 1), n + m.length + 1, u ++ m ++ [c]⟩ : CS) = _
  rw [if_pos (by omega), List.append_assoc, show n + m.length + 1 = n + k by omega]
/-- what was taken doesn't matter -/
theorem step_shift (md : Md) (n : Nat) (u v : List UInt8) (b : UInt8) : stepB most ⟨md, n, u ++ v⟩ b = ⟨(stepB most ⟨md, n, v⟩ b).md, (stepB most ⟨md, n, v⟩ b).n, u ++ (stepB most ⟨md, n, v⟩ b).u⟩ := by
  cases md <;> unfold stepB <;> simp only
  · split
    · rfl
    · split <;> rfl
  · rw [List.append_assoc]
  · split
    · rfl
    · split <;> rfl
theorem run_shift (u : List UInt8) : ∀ (l : List UInt8) (s : CS), run most ⟨s.md, s.n, u ++ s.u⟩ l = ⟨(run most s l).md, (run most s l).n, u ++ (run most s l).u⟩
  | [], s => rfl
  | b :: l, s => by
    rw [run_cons, run_cons, step_shift]
    exact run_shift u l (stepB most s b)
end

/-! ### lines of what has come -/
/-- the line that a text begins with, without 0A: within 256 bytes -/
def lineC (l : List UInt8) : Option (List UInt8) := (cutB 10 (l.take 256)).map Prod.fst
theorem lineC_some {l t : List UInt8} (h : lineC l = some t) : l = t ++ 10 :: l.drop (t.length + 1) ∧ (10 : UInt8) ∉ t ∧ t.length ≤ 255 ∧ t.length + 1 ≤ l.length := by
  unfold lineC at h
  cases hq : cutB 10 (l.take 256) with
  | none => rw [hq] at h; cases h
  | some p =>
    obtain ⟨x, y⟩ := p
    rw [hq] at h
    have e : x = t := by simpa using h
    subst e
    obtain ⟨e, hx⟩ := cutB_some hq
    have hlen := congrArg List.length e
    rw [List.length_take, List.length_append, List.length_cons] at hlen
    have e2 : l = x ++ 10 :: (y ++ l.drop 256) := by
      have : l = l.take 256 ++ l.drop 256 := (List.take_append_drop _ _).symm
      rw [e] at this
      simpa using this
    refine ⟨?_, hx, by omega, by omega⟩
    have e3 : l.drop (x.length + 1) = y ++ l.drop 256 := by
      have := congrArg (List.drop (x.length + 1)) e2
      rw [this, show x ++ 10 :: (y ++ l.drop 256) = (x ++ [10]) ++ (y ++ l.drop 256) by simp, List.drop_left' (by simp)]
    rw [e3]; exact e2
theorem lineC_none {l : List UInt8} (h : lineC l = none) : (10 : UInt8) ∉ l.take 256 := by
  unfold lineC at h
  exact cutB_none.1 (by simpa using h)
theorem read_line {most n : Nat} {u l t : List UInt8} (h : lineC l = some t) : run most ⟨.line [], n, u⟩ l = run most ⟨endL most n t, n, u⟩ (l.drop (t.length + 1)) := by
  obtain ⟨e, h1, h2, _⟩ := lineC_some h
  have := run_line_end (most := most) n u t (l.drop (t.length + 1)) [] h1 (by simpa using h2)
  rw [← e] at this
  simpa using this
theorem read_line_wait {most n : Nat} {u l : List UInt8} (h : lineC l = none) (hl : l.length < 256) : run most ⟨.line [], n, u⟩ l = ⟨.line l, n, u⟩ := by
  have h1 := lineC_none h
  rw [List.take_of_length_le (by omega)] at h1
  have := run_line (most := most) n u l [] h1 (by simp; omega)
  simpa using this
theorem read_line_bad {most n : Nat} {u l : List UInt8} (h : lineC l = none) (hl : 256 ≤ l.length) : run most ⟨.line [], n, u⟩ l = ⟨.err 3, n, u⟩ :=
  run_line_long n u l [] (lineC_none h) (by simp) (by simpa using hl)
theorem read_trail {most n k : Nat} {u l t : List UInt8} (h : lineC l = some t) : run most ⟨.trail [] k, n, u⟩ l = run most ⟨endT k t, n, u⟩ (l.drop (t.length + 1)) := by
  obtain ⟨e, h1, h2, _⟩ := lineC_some h
  have := run_trail_end (most := most) n u t (l.drop (t.length + 1)) k [] h1 (by simpa using h2)
  rw [← e] at this
  simpa using this
theorem read_trail_wait {most n k : Nat} {u l : List UInt8} (h : lineC l = none) (hl : l.length < 256) : run most ⟨.trail [] k, n, u⟩ l = ⟨.trail l k, n, u⟩ := by
  have h1 := lineC_none h
  rw [List.take_of_length_le (by omega)] at h1
  have := run_trail (most := most) n u k l [] h1 (by simp; omega)
  simpa using this
theorem read_trail_bad {most n k : Nat} {u l : List UInt8} (h : lineC l = none) (hl : 256 ≤ l.length) : run most ⟨.trail [] k, n, u⟩ l = ⟨.err 3, n, u⟩ :=
  run_trail_long n u k l [] (lineC_none h) (by simp) (by simpa using hl)

/-! ### what bytes come to -/
def Md.isDone : Md → Bool
  | .done _ => true
  | _ => false
def Md.rest : Md → List UInt8
  | .done r => r
  | _ => []
def Md.error : Md → Int
  | .err e => e
  | _ => 0

/-! ### bounds -/
/-- how many bytes there may be, with those that are told of -/
def Md.ahead : Md → Nat
  | .data k => k
  | _ => 0
def Md.Good : Md → Prop
  | .data k => 0 < k
  | .err e => e = 3 ∨ e = 4
  | _ => True
structure CS.Ok (most : Nat) (s : CS) : Prop where
  n : s.n + s.md.ahead ≤ most
  u : s.u.length ≤ s.n
  g : s.md.Good
theorem endL_ok {most n : Nat} (acc : List UInt8) (h : n ≤ most) : n + (endL most n acc).ahead ≤ most ∧ (endL most n acc).Good := by
  unfold endL
  split
  · cases hq : numF acc.dropLast ((most : Int) - (n : Int)) with
    | error e => exact ⟨h, numF_err hq⟩
    | ok k =>
      have := (numF_ok hq).1
      cases k with
      | zero => exact ⟨h, trivial⟩
      | succ k => exact ⟨by show n + (k + 1) ≤ most; omega, Nat.succ_pos k⟩
  · exact ⟨h, .inl rfl⟩
theorem endT_ok {most n : Nat} (k : Nat) (acc : List UInt8) (h : n ≤ most) : n + (endT k acc).ahead ≤ most ∧ (endT k acc).Good := by
  unfold endT
  split
  · split
    · exact ⟨h, trivial⟩
    · split
      · split
        · exact ⟨h, .inr rfl⟩
        · exact ⟨h, trivial⟩
      · exact ⟨h, .inl rfl⟩
  · exact ⟨h, .inl rfl⟩
theorem CS.Ok.step {most : Nat} {s : CS} (h : s.Ok most) (b : UInt8) : (stepB most s b).Ok most := by
  obtain ⟨md, n, u⟩ := s
  obtain ⟨h1, h2, h3⟩ := h
  simp only at h1 h2 h3
  cases md with
  | line acc =>
    unfold stepB; simp only
    split
    · have := endL_ok (most := most) (n := n) acc (by simpa [Md.ahead] using h1)
      exact ⟨this.1, h2, this.2⟩
    · split
      · exact ⟨h1, h2, .inl rfl⟩
      · exact ⟨h1, h2, trivial⟩
  | data k =>
    have h1' : n + k ≤ most := h1
    have h3' : 0 < k := h3
    unfold stepB; simp only
    by_cases c : k ≤ 1
    · rw [if_pos c]
      exact ⟨by show n + 1 + 0 ≤ most; omega, by simp; omega, trivial⟩
    · rw [if_neg c]
      exact ⟨by show n + 1 + (k - 1) ≤ most; omega, by simp; omega, by show 0 < k - 1; omega⟩
  | cr =>
    unfold stepB; simp only
    split
    · exact ⟨h1, h2, trivial⟩
    · exact ⟨h1, h2, .inl rfl⟩
  | lf =>
    unfold stepB; simp only
    split
    · exact ⟨h1, h2, trivial⟩
    · exact ⟨h1, h2, .inl rfl⟩
  | trail acc k =>
    unfold stepB; simp only
    split
    · have := endT_ok (most := most) (n := n) k acc (by simpa [Md.ahead] using h1)
      exact ⟨this.1, h2, this.2⟩
    · split
      · exact ⟨h1, h2, .inl rfl⟩
      · exact ⟨h1, h2, trivial⟩
  | done r =>
    unfold stepB; simp only
    exact ⟨h1, h2, trivial⟩
  | err e =>
    unfold stepB; simp only
    exact ⟨h1, h2, h3⟩
theorem CS.Ok.run {most : Nat} : ∀ {l : List UInt8} {s : CS}, s.Ok most → (Ch.run most s l).Ok most
  | [], s, h => h
  | b :: l, s, h => by
    rw [run_cons]
    exact CS.Ok.run (h.step b)
theorem init_ok (most : Nat) : init.Ok most := ⟨Nat.zero_le _, Nat.le_refl _, trivial⟩
/-- what is read only grows; what is behind an error or the end stays -/
theorem run_grows {most : Nat} : ∀ (l : List UInt8) (s : CS), ∃ v, (run most s l).u = s.u ++ v ∧ (run most s l).n = s.n + v.length
  | [], s => ⟨[], by rw [run_nil, List.append_nil], rfl⟩
  | b :: l, s => by
    obtain ⟨v, h1, h2⟩ := run_grows (most := most) l (stepB most s b)
    have hs : ∃ x : List UInt8, (stepB most s b).u = s.u ++ x ∧ (stepB most s b).n = s.n + x.length := by
      obtain ⟨md, n, u⟩ := s
      cases md with
      | data k => exact ⟨[b], rfl, rfl⟩
      | line acc =>
        refine ⟨[], ?_⟩
        unfold stepB; simp only
        split
        · exact ⟨by simp, rfl⟩
        · split <;> exact ⟨by simp, rfl⟩
      | trail acc k =>
        refine ⟨[], ?_⟩
        unfold stepB; simp only
        split
        · exact ⟨by simp, rfl⟩
        · split <;> exact ⟨by simp, rfl⟩
      | cr => exact ⟨[], by simp [stepB], rfl⟩
      | lf => exact ⟨[], by simp [stepB], rfl⟩
      | done r => exact ⟨[], by simp [stepB], rfl⟩
      | err e => exact ⟨[], by simp [stepB], rfl⟩
    obtain ⟨x, e1, e2⟩ := hs
    refine ⟨x ++ v, ?_, ?_⟩
    · rw [run_cons, h1, e1, List.append_assoc]
    · rw [run_cons, h2, e2, List.length_append]; omega

/-! ### how a body is written -/
/-- in chunks of by + 1 bytes -/
def wrt (by_ : Nat) (s : List UInt8) : List UInt8 :=
  if h : s = [] then [48, 13, 10, 13, 10]
  else digL 14 (min (by_ + 1) s.length) ++ [13, 10] ++ s.take (by_ + 1) ++ [13, 10] ++ wrt by_ (s.drop (by_ + 1))
termination_by s.length
decreasing_by
  have : 0 < s.length := List.length_pos_iff.2 h
  rw [List.length_drop]; omega
theorem wrt_nil (b : Nat) : wrt b [] = [48, 13, 10, 13, 10] := by rw [wrt, dif_pos rfl]
theorem wrt_more (b : Nat) {s : List UInt8} (h : s ≠ []) : wrt b s = digL 14 (min (b + 1) s.length) ++ [13, 10] ++ s.take (b + 1) ++ [13, 10] ++ wrt b (s.drop (b + 1)) := by
  rw [wrt, dif_neg h]
theorem wrt_great {a b : Nat} {s : List UInt8} (ha : s.length ≤ a + 1) (hb : s.length ≤ b + 1) : wrt a s = wrt b s := by
  by_cases h : s = []
  · subst h; rw [wrt_nil, wrt_nil]
  · rw [wrt_more a h, wrt_more b h, List.drop_of_length_le ha, List.drop_of_length_le hb, List.take_of_length_le ha, List.take_of_length_le hb, wrt_nil, wrt_nil, Nat.min_eq_right ha, Nat.min_eq_right hb]
/-- cut off it isn't whole: no error, no end, and data that the body begins with -/
theorem read_part {most : Nat} {p q s : List UInt8} (hq : q ≠ []) (h : run most init (p ++ q) = ⟨.done [], s.length, s⟩) : (∀ e, (run most init p).md ≠ .err e) ∧ (run most init p).md.isDone = false ∧ ∃ v, s = (run most init p).u ++ v := by
  rw [run_append] at h
  obtain ⟨v, h1, h2⟩ := run_grows (most := most) q (run most init p)
  refine ⟨fun e he => ?_, ?_, v, ?_⟩
  · generalize run most init p = x at h he
    obtain ⟨md, n, u⟩ := x
    simp only at he
    subst he
    rw [run_err] at h
    cases h
  · generalize run most init p = x at h
    obtain ⟨md, n, u⟩ := x
    cases md with
    | done r =>
      rw [run_done] at h
      injection h with h _ _
      injection h with h
      exact absurd (List.append_eq_nil_iff.1 h).2 hq
    | _ => rfl
  · rw [h] at h1; exact h1
end Go.Proofs.YtdldoklkenhopaaDoor.Ch
