/-
  A head that isn't whole isn't whole either with bytes behind it that end no line, unless there are too many; what a struct stands for.
-/
import Derived.Test.YtdldoklkenhopaaGreatDoorSet4
import Derived.Test.YtdldoklkenhopaaGreatDoorChNew
namespace Go.Proofs.YtdldoklkenhopaaGreatDoor.In
open Go.RowKit Go.PlainAid
open Hx Fi Ch
set_option linter.unusedVariables false
set_option maxRecDepth 20000
set_option linter.unusedSimpArgs false

theorem lineF_17 {l q : List UInt8} (h : lineF false l = .error 17) (hq : (10 : UInt8) ∉ q) : lineF false (l ++ q) = .error 17 := by
  unfold lineF at h ⊢
  cases hc : cutB 10 l with
  | none =>
    have hm := cutB_none.1 hc
    rw [cutB_none.2 (by simp only [List.mem_append, not_or]; exact ⟨hm, hq⟩)]
    simp
  | some p =>
    rw [hc] at h
    simp only at h
    split at h
    · cases h
    · injection h with h; omega
theorem fld_17 {q : List UInt8} (hq : (10 : UInt8) ∉ q) : ∀ (k : Nat) (l : List UInt8), l.length ≤ k → ∀ (at_ : Nat) (acc : List Fi.Fd), (fldF false l at_ acc).err = 17 → (fldF false (l ++ q) at_ acc).err = 17 := by
  intro k
  induction k with
  | zero =>
    intro l hl at_ acc h
    have : l = [] := List.eq_nil_of_length_eq_zero (by omega)
    subst this
    rw [fldF_err at_ acc (lineF_17 (l := []) rfl hq)]
  | succ k ih =>
    intro l hl at_ acc h
    cases hc : lineF false l with
    | error e =>
      rw [fldF_err at_ acc hc] at h
      have h : e = 17 := h
      subst h
      rw [fldF_err at_ acc (lineF_17 hc hq)]
    | ok p =>
      obtain ⟨x, r⟩ := p
      have hlen := lineF_len hc
      have hm := lineF_more q false hc
      by_cases hx : x = []
      · subst hx
        rw [fldF_end at_ acc hc] at h
        exact absurd (show (0 : Int) = 17 from h) (by omega)
      · cases hp : parseF x with
        | none =>
          rw [fldF_form at_ acc hc hx hp] at h
          exact absurd (show (3 : Int) = 17 from h) (by omega)
        | some f =>
          by_cases hl32 : acc.length = 32
          · rw [fldF_long at_ acc hc hx hp hl32] at h
            exact absurd (show (4 : Int) = 17 from h) (by omega)
          · rw [fldF_step at_ acc hc hx hp hl32] at h
            rw [fldF_step at_ acc hm hx hp hl32]
            exact ih r (by omega) _ _ h
theorem fld_true (k : Nat) : ∀ (l : List UInt8), l.length ≤ k → ∀ (at_ : Nat) (acc : List Fi.Fd), (fldF true l at_ acc).err ≠ 17 := by
  induction k with
  | zero =>
    intro l hl at_ acc
    have : l = [] := List.eq_nil_of_length_eq_zero (by omega)
    subst this
    rw [fldF_err at_ acc lineF_nil]
    show (4 : Int) ≠ 17
    omega
  | succ k ih =>
    intro l hl at_ acc
    cases hc : lineF true l with
    | error e =>
      rw [fldF_err at_ acc hc]
      show e ≠ 17
      intro h
      subst h
      unfold lineF at hc
      split at hc
      · simp at hc
      · split at hc
        · cases hc
        · injection hc with hc; omega
    | ok p =>
      obtain ⟨x, r⟩ := p
      have hlen := lineF_len hc
      by_cases hx : x = []
      · subst hx
        rw [fldF_end at_ acc hc]
        show (0 : Int) ≠ 17
        omega
      · cases hp : parseF x with
        | none =>
          rw [fldF_form at_ acc hc hx hp]
          show (3 : Int) ≠ 17
          omega
        | some f =>
          by_cases hl32 : acc.length = 32
          · rw [fldF_long at_ acc hc hx hp hl32]
            show (4 : Int) ≠ 17
            omega
          · rw [fldF_step at_ acc hc hx hp hl32]
            exact ih r (by omega) _ _
/-- what isn't whole yet is short -/
theorem spl_short {l : List UInt8} (h : (spl l).err = 17) : l.length < 4096 := by
  by_cases c : 4096 ≤ l.length
  · exfalso
    unfold spl at h
    rw [decide_eq_true c] at h
    cases hc : lineF true (l.take 4096) with
    | error e =>
      rw [hc] at h
      have h : e = 17 := h
      subst h
      unfold lineF at hc
      split at hc
      · simp at hc
      · split at hc
        · cases hc
        · injection hc with hc; omega
    | ok p =>
      obtain ⟨x, r⟩ := p
      rw [hc] at h
      simp only at h
      split at h
      · exact absurd (show (3 : Int) = 17 from h) (by omega)
      · split at h
        · exact absurd (show (4 : Int) = 17 from h) (by omega)
        · exact fld_true r.length r (Nat.le_refl _) _ _ h
  · omega
theorem spl_17 {l q : List UInt8} (h : (spl l).err = 17) (hq : (10 : UInt8) ∉ q) (hl : (l ++ q).length < 4096) : (spl (l ++ q)).err = 17 := by
  have hs := spl_short h
  unfold spl at h ⊢
  rw [decide_eq_false (by omega), List.take_of_length_le (by omega)] at h
  rw [decide_eq_false (by omega), List.take_of_length_le (by omega)]
  cases hc : lineF false l with
  | error e =>
    rw [hc] at h
    have h : e = 17 := h
    subst h
    rw [lineF_17 hc hq]
  | ok p =>
    obtain ⟨x, r⟩ := p
    rw [hc] at h
    rw [lineF_more q false hc]
    simp only at h ⊢
    split at h
    · exact absurd (show (3 : Int) = 17 from h) (by omega)
    · split at h
      · exact absurd (show (4 : Int) = 17 from h) (by omega)
      · rename_i h1 h2
        rw [if_neg h1, if_neg h2]
        exact fld_17 hq r.length r (Nat.le_refl _) _ _ h
theorem spl_17_nil : (spl []).err = 17 := by simp [spl, lineF, cutB]
/-- more bytes, of which the first a are known to be no whole head -/
theorem spl_asked {l : List UInt8} {a : Nat} (h : (spl (l.take a)).err = 17) (hq : (10 : UInt8) ∉ l.drop a) (hl : l.length < 4096) : (spl l).err = 17 := by
  have := spl_17 h hq (by rw [List.take_append_drop]; exact hl)
  rwa [List.take_append_drop] at this

/-! ### what a struct holds, and what it stands for -/
structure I where
  st : Int
  asked : Int
  rd : Int
  due : Int
  wr : Int
  l2 : List UInt8
  q : Rq
  R : Option CS
def q0 : Rq := ⟨[], [], [], false⟩
/-- what has come of a request that isn't answered is l, and st is wrong with it (0: nothing) -/
structure Wrg (c : I) (l : List UInt8) (st : Int) : Prop where
  ne : st ≠ 0
  wr : c.wr = st
  rd : c.rd = (l.length : Int)
  l2 : c.l2 = []
structure Hea (c : I) (l : List UInt8) : Prop where
  wr : c.wr = 0
  st : c.st = 0
  rd : c.rd = 0
  l2 : c.l2 = l
  asked : ∃ a : Nat, c.asked = (a : Int) ∧ a ≤ l.length ∧ (spl (l.take a)).err = 17
structure Beh (c : I) (l pre : List UInt8) (f : Fr) : Prop where
  wr : c.wr = 0
  ll : l = pre ++ c.l2
  rd : c.rd = (pre.length : Int)
  e : (spl l).err = 0
  n : (spl l).n ≤ pre.length
  q : headQ (spl l) = .ok (c.q, f)
structure Bod (c : I) (l pre : List UInt8) (f : Fr) : Prop extends Beh c l pre f where
  st : c.st = 1
  fc : f.c = false
  due : ∃ d : Nat, c.due = (d : Int) ∧ pre.length + d = (spl l).n + f.n.toNat
structure Chu (c : I) (l pre : List UInt8) (f : Fr) : Prop extends Beh c l pre f where
  st : c.st = 2
  fc : f.c = true
  R : c.R = some (taken (run 4096 init (pre.drop (spl l).n)))
  more : (run 4096 init (pre.drop (spl l).n)).md.isDone = false ∧ (run 4096 init (pre.drop (spl l).n)).md.error = 0
structure Who (c : I) (l pre : List UInt8) : Prop where
  wr : c.wr = 0
  st : c.st = 3
  ll : l = pre ++ c.l2
  rd : c.rd = (pre.length : Int)
  is : rdF l = .ok c.q pre.length
inductive IsAt (c : I) (l : List UInt8) : Int → Prop where
  | wrong {st : Int} (h : Wrg c l st) : IsAt c l st
  | head (h : Hea c l) : IsAt c l 0
  | body (pre : List UInt8) (f : Fr) (h : Bod c l pre f) : IsAt c l 0
  | chunks (pre : List UInt8) (f : Fr) (h : Chu c l pre f) : IsAt c l 0
  | whole (pre : List UInt8) (h : Who c l pre) : IsAt c l 0
theorem IsAt.wr {c : I} {l : List UInt8} {st : Int} (h : IsAt c l st) : c.wr = st := by
  cases h with
  | wrong h => exact h.wr
  | head h => exact h.wr
  | body _ _ h => exact h.wr
  | chunks _ _ h => exact h.wr
  | whole _ h => exact h.wr
/-- how many bytes are left -/
theorem IsAt.left {c : I} {l : List UInt8} {st : Int} (h : IsAt c l st) : c.rd + (c.l2.length : Int) = (l.length : Int) ∧ 0 ≤ c.rd := by
  have key : ∀ pre : List UInt8, l = pre ++ c.l2 → c.rd = (pre.length : Int) → c.rd + (c.l2.length : Int) = (l.length : Int) ∧ 0 ≤ c.rd := fun pre e r => by
    have := congrArg List.length e
    rw [List.length_append] at this
    omega
  cases h with
  | wrong h => have := h.rd; rw [h.l2]; simp; omega
  | head h => have := h.rd; rw [h.l2]; omega
  | body pre _ h => exact key pre h.ll h.rd
  | chunks pre _ h => exact key pre h.ll h.rd
  | whole pre h => exact key pre h.ll h.rd
/-! ### bytes more -/
theorem IsAt.more {c : I} {l : List UInt8} (h : IsAt c l 0) (s : List UInt8) : IsAt { c with l2 := c.l2 ++ s } (l ++ s) 0 := by
  have beh : ∀ {pre : List UInt8} {f : Fr}, Beh c l pre f → Beh { c with l2 := c.l2 ++ s } (l ++ s) pre f := fun {pre f} b => by
    have hs := spl_more l s (by rw [b.e]; omega)
    exact ⟨b.wr, by rw [b.ll, List.append_assoc], b.rd, by rw [hs]; exact b.e, by rw [hs]; exact b.n, by rw [hs]; exact b.q⟩
  cases h with
  | wrong h => exact absurd rfl h.ne
  | head h =>
    obtain ⟨a, h1, h2, h3⟩ := h.asked
    exact .head ⟨h.wr, h.st, h.rd, by show c.l2 ++ s = l ++ s; rw [h.l2], a, h1, by rw [List.length_append]; omega, by rw [List.take_append_of_le_length h2]; exact h3⟩
  | body pre f h =>
    have hs := spl_more l s (by rw [h.e]; omega)
    exact .body pre f { toBeh := beh h.toBeh, st := h.st, fc := h.fc, due := by rw [hs]; exact h.due }
  | chunks pre f h =>
    have hs := spl_more l s (by rw [h.e]; omega)
    exact .chunks pre f { toBeh := beh h.toBeh, st := h.st, fc := h.fc, R := by rw [hs]; exact h.R, more := by rw [hs]; exact h.more }
  | whole pre h =>
    exact .whole pre ⟨h.wr, h.st, by rw [h.ll, List.append_assoc], h.rd, by rw [rd_stays l s (by rw [h.is]; intro e; cases e)]; exact h.is⟩
/-! ### the steps of Next, plainly -/
/-- it is refused -/
def refused (c : I) (st : Int) : I := ⟨0, 0, c.rd + (c.l2.length : Int), 0, st, [], q0, none⟩
theorem refused_is {c : I} {l : List UInt8} {st : Int} (h : c.rd + (c.l2.length : Int) = (l.length : Int)) (hs : st ≠ 0) : IsAt (refused c st) l st := .wrong ⟨hs, rfl, h, rfl⟩
/-- it is handed out -/
def handed (c : I) : I := ⟨0, 0, 0, 0, 0, c.l2, q0, none⟩
theorem handed_is (c : I) : IsAt (handed c) c.l2 0 := .head ⟨rfl, rfl, rfl, rfl, 0, rfl, Nat.zero_le _, by rw [List.take_zero]; exact spl_17_nil⟩
/-- n bytes are read -/
def passed (c : I) (n : Nat) : I := { c with l2 := c.l2.drop n, rd := c.rd + (n : Int) }
theorem Bod.step {c : I} {l pre : List UInt8} {f : Fr} (h : Bod c l pre f) {d : Nat} (hd : c.due = (d : Int)) (hl : d ≤ c.l2.length) :
    rdF l = .ok c.q (pre.length + d) ∧ Who { passed c d with due := 0, st := 3 } l (pre ++ c.l2.take d) := by
  obtain ⟨d', h1, h2⟩ := h.due
  obtain rfl : d' = d := by omega
  have hlen := congrArg List.length h.ll
  rw [List.length_append] at hlen
  have hr : rdF l = .ok c.q (pre.length + d') := by
    rw [rd_sized h.e h.q (by rw [h.fc]; simp), if_neg (by omega), h2]
  refine ⟨hr, h.wr, rfl, ?_, ?_, ?_⟩
  · show l = pre ++ c.l2.take d' ++ c.l2.drop d'
    rw [List.append_assoc, List.take_append_drop]; exact h.ll
  · show c.rd + (d' : Int) = ((pre ++ c.l2.take d').length : Int)
    rw [List.length_append, List.length_take, h.rd]; omega
  · show rdF l = .ok c.q (pre ++ c.l2.take d').length
    rw [hr, List.length_append, List.length_take, Nat.min_eq_left hl]
theorem Bod.wait {c : I} {l pre : List UInt8} {f : Fr} (h : Bod c l pre f) {d : Nat} (hd : c.due = (d : Int)) (hl : c.l2.length < d) :
    rdF l = .more ∧ Bod { passed c c.l2.length with due := ((d - c.l2.length : Nat) : Int) } l l f := by
  obtain ⟨d', h1, h2⟩ := h.due
  obtain rfl : d' = d := by omega
  have hlen := congrArg List.length h.ll
  rw [List.length_append] at hlen
  have hn := h.n
  refine ⟨by rw [rd_sized h.e h.q (by rw [h.fc]; simp), if_pos (by omega)], { wr := h.wr, ll := ?_, rd := ?_, e := h.e, n := by omega, q := h.q, st := h.st, fc := h.fc, due := ⟨d' - c.l2.length, rfl, by omega⟩ }⟩
  · show l = l ++ c.l2.drop c.l2.length
    rw [List.drop_length, List.append_nil]
  · show c.rd + (c.l2.length : Int) = (l.length : Int)
    rw [h.rd]; omega
theorem bodyC_u {q : Rq} {R T : CS} {n : Nat} (h : R.md = T.md) : bodyC q R n = bodyC q T n := by unfold bodyC; rw [h]
theorem rest_none {md : Md} (h : md.isDone = false) : md.rest = [] := by cases md <;> first | rfl | cases h
theorem done_err {md : Md} (h : md.isDone = true) : md.error = 0 := by cases md <;> first | rfl | cases h
/-- where the chunks stand once the rest of what has come is fed to them -/
theorem Chu.runs {c : I} {l pre : List UInt8} {f : Fr} (h : Chu c l pre f) : ∃ T, run 4096 (taken (run 4096 init (pre.drop (spl l).n))) c.l2 = T ∧ (run 4096 init (l.drop (spl l).n)).md = T.md ∧ taken (run 4096 init (l.drop (spl l).n)) = taken T ∧ rdF l = bodyC c.q T l.length ∧ T.md.rest.length ≤ c.l2.length := by
  refine ⟨_, rfl, ?_⟩
  have e : l.drop (spl l).n = pre.drop (spl l).n ++ c.l2 := by
    have h2 := congrArg (List.drop (spl l).n) h.ll
    rwa [List.drop_append_of_le_length h.n] at h2
  have h1 : run 4096 init (l.drop (spl l).n) = run 4096 (run 4096 init (pre.drop (spl l).n)) c.l2 := by rw [e, run_append]
  have h2 := run_shift (most := 4096) (run 4096 init (pre.drop (spl l).n)).u c.l2 (taken (run 4096 init (pre.drop (spl l).n)))
  have h3 : (⟨(taken (run 4096 init (pre.drop (spl l).n))).md, (taken (run 4096 init (pre.drop (spl l).n))).n, (run 4096 init (pre.drop (spl l).n)).u ++ (taken (run 4096 init (pre.drop (spl l).n))).u⟩ : CS) = run 4096 init (pre.drop (spl l).n) := by
    show (⟨_, _, _ ++ []⟩ : CS) = _
    rw [List.append_nil]; rfl
  rw [h3] at h2
  have hm : (run 4096 init (l.drop (spl l).n)).md = (run 4096 (taken (run 4096 init (pre.drop (spl l).n))) c.l2).md := by rw [h1, h2]
  refine ⟨hm, ?_, ?_, ?_⟩
  · rw [h1, h2]; rfl
  · rw [rd_chunks h.e h.q h.fc]; exact bodyC_u hm
  · have := rest_le 4096 c.l2 (taken (run 4096 init (pre.drop (spl l).n)))
    have e2 : (taken (run 4096 init (pre.drop (spl l).n))).md.rest.length = 0 := by
      show (run 4096 init (pre.drop (spl l).n)).md.rest.length = 0
      rw [rest_none h.more.1]; rfl
    omega
theorem Chu.step {c : I} {l pre : List UInt8} {f : Fr} (h : Chu c l pre f) {T : CS} (h1 : rdF l = bodyC c.q T l.length) (h2 : T.md.rest.length ≤ c.l2.length) (hd : T.md.isDone = true) (R : Option CS) :
    Who { passed c (c.l2.length - T.md.rest.length) with R := R, st := 3 } l (pre ++ c.l2.take (c.l2.length - T.md.rest.length)) := by
  have hlen := congrArg List.length h.ll
  rw [List.length_append] at hlen
  refine ⟨h.wr, rfl, ?_, ?_, ?_⟩
  · show l = pre ++ c.l2.take _ ++ c.l2.drop _
    rw [List.append_assoc, List.take_append_drop]; exact h.ll
  · show c.rd + ((c.l2.length - T.md.rest.length : Nat) : Int) = _
    rw [List.length_append, List.length_take, h.rd]; omega
  · show rdF l = .ok c.q _
    rw [h1]
    unfold bodyC
    rw [if_pos hd, List.length_append, List.length_take]
    congr 1
    omega
theorem Chu.wait {c : I} {l pre : List UInt8} {f : Fr} (h : Chu c l pre f) {T : CS} (h0 : taken (run 4096 init (l.drop (spl l).n)) = taken T) (hm : (run 4096 init (l.drop (spl l).n)).md = T.md) (h1 : rdF l = bodyC c.q T l.length) (hd : T.md.isDone = false) (he : T.md.error = 0) :
    rdF l = .more ∧ Chu { passed c (c.l2.length - T.md.rest.length) with R := some (taken T) } l l f := by
  have hlen := congrArg List.length h.ll
  rw [List.length_append] at hlen
  have hn := h.n
  have hr : T.md.rest.length = 0 := by rw [rest_none hd]; rfl
  refine ⟨by rw [h1]; unfold bodyC; rw [if_neg (by rw [hd]; simp), if_pos he], { wr := h.wr, ll := ?_, rd := ?_, e := h.e, n := by omega, q := h.q, st := h.st, fc := h.fc, R := by rw [h0], more := by rw [hm]; exact ⟨hd, he⟩ }⟩
  · show l = l ++ c.l2.drop _
    rw [hr, Nat.sub_zero, List.drop_length, List.append_nil]
  · show c.rd + ((c.l2.length - T.md.rest.length : Nat) : Int) = (l.length : Int)
    rw [h.rd, hr]; omega
theorem Chu.bad {c : I} {l : List UInt8} {T : CS} (h1 : rdF l = bodyC c.q T l.length) (he : T.md.error ≠ 0) : rdF l = .bad (if T.md.error = 4 then 413 else 400) := by
  have hd : T.md.isDone = false := by
    cases h : T.md.isDone with
    | false => rfl
    | true => exact absurd (done_err h) he
  rw [h1]
  unfold bodyC
  rw [if_neg (by rw [hd]; simp), if_neg he]
  split <;> rfl
/-- which state comes how late -/
def rank (c : I) : Nat := if c.st = 0 then 3 else if c.st = 3 then 0 else 1
/-- what a step of Next comes to: it goes on, or not -/
def Stp (c : I) (l : List UInt8) (b : Bool) (c' : I) : Prop :=
  if b = true then IsAt c' l 0 ∧ rank c' < rank c else (rdF l = .more ∧ IsAt c' l 0) ∨ ∃ st, rdF l = .bad st ∧ IsAt c' l st
end Go.Proofs.YtdldoklkenhopaaGreatDoor.In
