/-
  Requests, plainly: what bytes that have come begin with, and that whatever comes behind doesn't change it.
-/
import Derived.Test.YtdldoklkenhopaaDoorFiPlain
import Derived.Test.YtdldoklkenhopaaDoorFiLen
import Derived.Test.YtdldoklkenhopaaDoorChMath
namespace Go.Proofs.YtdldoklkenhopaaDoor.In
open Go.RowKit Go.PlainAid
open Hx Fi Ch
set_option linter.unusedVariables false
set_option maxRecDepth 20000
set_option linter.unusedSimpArgs false

/-! ### a request line -/
def visB (b : UInt8) : Bool := decide (33 ≤ b ∧ b ≤ 126)
/-- the two digits of a version -/
def verF (v : List UInt8) : Option (UInt8 × UInt8) :=
  if v.length = 8 ∧ v.take 5 = [72, 84, 84, 80, 47] ∧ v.getD 6 0 = 46 ∧ (48 ≤ v.getD 5 0 ∧ v.getD 5 0 ≤ 57) ∧ 48 ≤ v.getD 7 0 ∧ v.getD 7 0 ≤ 57 then some (v.getD 5 0, v.getD 7 0) else none
def lnQ (l : List UInt8) : Except Int (List UInt8 × List UInt8 × Nat) :=
  match cutB 32 l with
  | none => .error 400
  | some (m, r) =>
    if isTok m = true then
      match cutB 32 r with
      | none => .error 400
      | some (t, v) =>
        if t ≠ [] ∧ t.all visB = true then
          match verF v with
          | none => .error 400
          | some (a, b) => if a = 49 ∧ b ≤ 49 then .ok (m, t, b.toNat - 48) else .error 505
        else .error 400
    else .error 400
theorem lnQ_err {l : List UInt8} {st : Int} (h : lnQ l = .error st) : st = 400 ∨ st = 505 := by
  unfold lnQ at h
  split at h
  · injection h with h; exact .inl h.symm
  · split at h
    · split at h
      · injection h with h; exact .inl h.symm
      · split at h
        · split at h
          · injection h with h; exact .inl h.symm
          · split at h
            · cases h
            · injection h with h; exact .inr h.symm
        · injection h with h; exact .inl h.symm
    · injection h with h; exact .inl h.symm

/-! ### a request -/
structure Rq where
  m : List UInt8
  t : List UInt8
  fs : List Fi.Fd
  cl : Bool
inductive Rd where
  | more
  | bad (st : Int)
  | ok (q : Rq) (n : Nat)
def nHost : ByteArray := ⟨#[72, 111, 115, 116]⟩
/-- a head that is whole: the request, how its body is framed; or what is wrong -/
noncomputable def headQ (h : Hd) : Except Int (Rq × Fr) :=
  match lnQ h.start with
  | .error st => .error st
  | .ok (m, t, k) =>
    if 1 < getN (ls nHost) h.list ∨ (getN (ls nHost) h.list = 0 ∧ k = 1) then .error 400
    else if (frF h.list 4096).e = 4 then .error 413
    else if (frF h.list 4096).e ≠ 0 then .error 400
    else .ok (⟨m, t, h.list, closesF h.list k⟩, frF h.list 4096)
theorem headQ_err {h : Hd} {st : Int} (e : headQ h = .error st) : st = 400 ∨ st = 505 ∨ st = 413 := by
  unfold headQ at e
  cases hq : lnQ h.start with
  | error s =>
    rw [hq] at e
    injection e with e
    subst e
    rcases lnQ_err hq with e | e
    · exact .inl e
    · exact .inr (.inl e)
  | ok p =>
    rw [hq] at e
    simp only at e
    split at e
    · injection e with e; exact .inl e.symm
    · split at e
      · injection e with e; exact .inr (.inr e.symm)
      · split at e
        · injection e with e; exact .inl e.symm
        · cases e
/-- a body in chunks, of what has come behind the head -/
def bodyC (q : Rq) (R : CS) (len : Nat) : Rd :=
  if R.md.isDone = true then .ok q (len - R.md.rest.length)
  else if R.md.error = 0 then .more
  else if R.md.error = 4 then .bad 413
  else .bad 400
noncomputable def rdF (l : List UInt8) : Rd :=
  if (spl l).err = 17 then .more
  else if (spl l).err = 4 then .bad 431
  else if (spl l).err ≠ 0 then .bad 400
  else match headQ (spl l) with
    | .error st => .bad st
    | .ok (q, f) =>
      if f.c = true then bodyC q (run 4096 init (l.drop (spl l).n)) l.length
      else if l.length < (spl l).n + f.n.toNat then .more else .ok q ((spl l).n + f.n.toNat)
theorem rd_short {l : List UInt8} (h : (spl l).err = 17) : rdF l = .more := by unfold rdF; rw [if_pos h]
theorem rd_long {l : List UInt8} (h : (spl l).err = 4) : rdF l = .bad 431 := by
  unfold rdF; rw [if_neg (by omega), if_pos h]
theorem rd_form {l : List UInt8} (h : (spl l).err ≠ 17) (h4 : (spl l).err ≠ 4) (h0 : (spl l).err ≠ 0) : rdF l = .bad 400 := by
  unfold rdF; rw [if_neg h, if_neg h4, if_pos h0]
theorem rd_bad {l : List UInt8} {st : Int} (h : (spl l).err = 0) (hq : headQ (spl l) = .error st) : rdF l = .bad st := by
  unfold rdF; rw [if_neg (by omega), if_neg (by omega), if_neg (by omega), hq]
theorem rd_chunks {l : List UInt8} {q : Rq} {f : Fr} (h : (spl l).err = 0) (hq : headQ (spl l) = .ok (q, f)) (hc : f.c = true) : rdF l = bodyC q (run 4096 init (l.drop (spl l).n)) l.length := by
  unfold rdF; rw [if_neg (by omega), if_neg (by omega), if_neg (by omega), hq]
  simp only
  rw [if_pos hc]
theorem rd_sized {l : List UInt8} {q : Rq} {f : Fr} (h : (spl l).err = 0) (hq : headQ (spl l) = .ok (q, f)) (hc : f.c ≠ true) : rdF l = if l.length < (spl l).n + f.n.toNat then .more else .ok q ((spl l).n + f.n.toNat) := by
  unfold rdF; rw [if_neg (by omega), if_neg (by omega), if_neg (by omega), hq]
  simp only
  rw [if_neg hc]
theorem bodyC_stays {q : Rq} {R : CS} {len : Nat} (r : List UInt8) (h : bodyC q R len ≠ .more) : bodyC q (run 4096 R r) (len + r.length) = bodyC q R len := by
  obtain ⟨md, n, u⟩ := R
  cases md with
  | done d =>
    rw [run_done]
    unfold bodyC
    show (if true = true then Rd.ok q (len + r.length - (d ++ r).length) else _) = (if true = true then Rd.ok q (len - d.length) else _)
    rw [if_pos rfl, if_pos rfl, List.length_append]
    congr 1
    omega
  | err e =>
    rw [run_err]
    unfold bodyC
    have e1 : (Md.err e).isDone = false := rfl
    simp only [e1, Bool.false_eq_true, if_false]
  | _ => exact absurd rfl h
/-- whatever comes behind: what is whole or wrong stays -/
theorem rd_stays (l r : List UInt8) (h : rdF l ≠ .more) : rdF (l ++ r) = rdF l := by
  by_cases h17 : (spl l).err = 17
  · exact absurd (rd_short h17) h
  · have hs := spl_more l r h17
    by_cases h4 : (spl l).err = 4
    · rw [rd_long h4, rd_long (by rw [hs]; exact h4)]
    · by_cases h0 : (spl l).err = 0
      · cases hq : headQ (spl l) with
        | error st => rw [rd_bad h0 hq, rd_bad (by rw [hs]; exact h0) (by rw [hs]; exact hq)]
        | ok p =>
          obtain ⟨q, f⟩ := p
          by_cases hc : f.c = true
          · rw [rd_chunks h0 hq hc] at h ⊢
            rw [rd_chunks (by rw [hs]; exact h0) (by rw [hs]; exact hq) hc, hs, List.drop_append_of_le_length (spl_n l), run_append, List.length_append]
            exact bodyC_stays r h
          · rw [rd_sized h0 hq hc] at h ⊢
            rw [rd_sized (by rw [hs]; exact h0) (by rw [hs]; exact hq) hc, hs, List.length_append]
            by_cases hl : l.length < (spl l).n + f.n.toNat
            · rw [if_pos hl] at h; exact absurd rfl h
            · rw [if_neg hl, if_neg (by omega)]
      · rw [rd_form h17 h4 h0, rd_form (by rw [hs]; exact h17) (by rw [hs]; exact h4) (by rw [hs]; exact h0)]
theorem rd_bad_ne {l : List UInt8} {st : Int} (h : rdF l = .bad st) : st ≠ 0 ∧ st ≠ 200 := by
  by_cases h17 : (spl l).err = 17
  · rw [rd_short h17] at h; cases h
  · by_cases h4 : (spl l).err = 4
    · rw [rd_long h4] at h; injection h with h; omega
    · by_cases h0 : (spl l).err = 0
      · cases hq : headQ (spl l) with
        | error s =>
          rw [rd_bad h0 hq] at h
          injection h with h
          have := headQ_err hq
          omega
        | ok p =>
          obtain ⟨q, f⟩ := p
          by_cases hc : f.c = true
          · rw [rd_chunks h0 hq hc] at h
            unfold bodyC at h
            split at h
            · cases h
            · split at h
              · cases h
              · split at h
                · injection h with h; omega
                · injection h with h; omega
          · rw [rd_sized h0 hq hc] at h
            split at h <;> cases h
      · rw [rd_form h17 h4 h0] at h; injection h with h; omega
/-! ### a whole head has bytes -/
theorem fld_pos (full : Bool) : ∀ (k : Nat) (l : List UInt8), l.length ≤ k → ∀ (at_ : Nat) (acc : List Fi.Fd), (fldF full l at_ acc).err = 0 → at_ < (fldF full l at_ acc).n := by
  intro k
  induction k with
  | zero =>
    intro l hl at_ acc h
    have : l = [] := List.eq_nil_of_length_eq_zero (by omega)
    subst this
    rw [fldF_err at_ acc lineF_nil] at h
    cases full <;> simp at h
  | succ k ih =>
    intro l hl at_ acc h
    cases hq : lineF full l with
    | error e =>
      rw [fldF_err at_ acc hq] at h
      exfalso
      have h : e = 0 := h
      unfold lineF at hq
      split at hq
      · injection hq with hq
        split at hq <;> omega
      · split at hq
        · cases hq
        · injection hq with hq; omega
    | ok p =>
      obtain ⟨x, r⟩ := p
      have hlen := lineF_len hq
      by_cases hx : x = []
      · subst hx
        rw [fldF_end at_ acc hq]
        show at_ < at_ + 2
        omega
      · cases hp : parseF x with
        | none => rw [fldF_form at_ acc hq hx hp] at h; cases h
        | some f =>
          by_cases hl32 : acc.length = 32
          · rw [fldF_long at_ acc hq hx hp hl32] at h; cases h
          · rw [fldF_step at_ acc hq hx hp hl32] at h ⊢
            have := ih r (by omega) (at_ + x.length + 2) (acc ++ [f]) h
            omega
theorem spl_pos (l : List UInt8) (h : (spl l).err = 0) : 0 < (spl l).n := by
  unfold spl at h ⊢
  cases hq : lineF (decide (4096 ≤ l.length)) (l.take 4096) with
  | error e =>
    rw [hq] at h
    exfalso
    have h : e = 0 := h
    unfold lineF at hq
    split at hq
    · injection hq with hq
      split at hq <;> omega
    · split at hq
      · cases hq
      · injection hq with hq; omega
  | ok p =>
    obtain ⟨x, r⟩ := p
    rw [hq] at h
    simp only at h ⊢
    by_cases hx : x = []
    · rw [if_pos hx] at h; cases h
    · rw [if_neg hx] at h ⊢
      by_cases hl : 1024 < x.length
      · rw [if_pos hl] at h; cases h
      · rw [if_neg hl] at h ⊢
        have := fld_pos _ r.length r (Nat.le_refl _) (x.length + 2) [] h
        show 0 < (fldF (decide (4096 ≤ l.length)) r (x.length + 2) []).n
        omega
/-- what is behind a body is behind the head -/
theorem rest_le (M : Nat) : ∀ (l : List UInt8) (s : CS), (run M s l).md.rest.length ≤ s.md.rest.length + l.length
  | [], s => by rw [run_nil]; exact Nat.le_add_right _ _
  | b :: l, s => by
    have ih := rest_le M l (stepB M s b)
    rw [run_cons]
    have hs : (stepB M s b).md.rest.length ≤ s.md.rest.length + 1 := by
      obtain ⟨md, n, u⟩ := s
      cases md with
      | done r => simp [stepB, Md.rest]
      | line a =>
        unfold stepB
        simp only
        split
        · unfold endL
          split
          · split <;> simp [Md.rest]
          · simp [Md.rest]
        · split <;> simp [Md.rest]
      | data k => unfold stepB; simp only; split <;> simp [Md.rest]
      | cr => unfold stepB; simp only; split <;> simp [Md.rest]
      | lf => unfold stepB; simp only; split <;> simp [Md.rest]
      | trail a k =>
        unfold stepB
        simp only
        split
        · unfold endT
          split
          · split
            · simp [Md.rest]
            · split
              · split <;> simp [Md.rest]
              · simp [Md.rest]
          · simp [Md.rest]
        · split <;> simp [Md.rest]
      | err e => simp [stepB]
    simp only [List.length_cons]
    omega
theorem rd_pos {l : List UInt8} {q : Rq} {n : Nat} (h : rdF l = .ok q n) : 0 < n ∧ n ≤ l.length := by
  by_cases h17 : (spl l).err = 17
  · rw [rd_short h17] at h; cases h
  · by_cases h4 : (spl l).err = 4
    · rw [rd_long h4] at h; cases h
    · by_cases h0 : (spl l).err = 0
      · have hp := spl_pos l h0
        have hn := spl_n l
        cases hq : headQ (spl l) with
        | error s => rw [rd_bad h0 hq] at h; cases h
        | ok p =>
          obtain ⟨q', f⟩ := p
          by_cases hc : f.c = true
          · rw [rd_chunks h0 hq hc] at h
            have hr := rest_le 4096 (l.drop (spl l).n) init
            rw [List.length_drop] at hr
            have hi : init.md.rest.length = 0 := rfl
            unfold bodyC at h
            split at h
            · injection h with _ h
              omega
            · split at h
              · cases h
              · split at h <;> cases h
          · rw [rd_sized h0 hq hc] at h
            split at h
            · cases h
            · injection h with _ h
              omega
      · rw [rd_form h17 h4 h0] at h; cases h
/-! ### all requests -/
structure Al where
  qs : List Rq
  st : Int
  rest : List UInt8
/-- the requests that bytes have, what is wrong then (0: nothing), and what wasn't read -/
noncomputable def allF (l : List UInt8) : Al :=
  match h : rdF l with
  | .more => ⟨[], 0, l⟩
  | .bad st => ⟨[], st, l⟩
  | .ok q n => ⟨q :: (allF (l.drop n)).qs, (allF (l.drop n)).st, (allF (l.drop n)).rest⟩
termination_by l.length
decreasing_by
  all_goals
    have := rd_pos h
    rw [List.length_drop]
    omega
theorem all_more {l : List UInt8} (h : rdF l = .more) : allF l = ⟨[], 0, l⟩ := by
  rw [allF]
  split <;> rename_i e
  · rfl
  · rw [h] at e; cases e
  · rw [h] at e; cases e
theorem all_bad {l : List UInt8} {st : Int} (h : rdF l = .bad st) : allF l = ⟨[], st, l⟩ := by
  rw [allF]
  split <;> rename_i e
  · rw [h] at e; cases e
  · rw [h] at e; injection e with e; rw [e]
  · rw [h] at e; cases e
theorem all_ok {l : List UInt8} {q : Rq} {n : Nat} (h : rdF l = .ok q n) : allF l = ⟨q :: (allF (l.drop n)).qs, (allF (l.drop n)).st, (allF (l.drop n)).rest⟩ := by
  rw [allF]
  split <;> rename_i e
  · rw [h] at e; cases e
  · rw [h] at e; cases e
  · rw [h] at e; injection e with e1 e2; rw [e1, e2]
theorem all_append (r : List UInt8) : ∀ (k : Nat) (l : List UInt8), l.length ≤ k → allF (l ++ r) = if (allF l).st = 0 then ⟨(allF l).qs ++ (allF ((allF l).rest ++ r)).qs, (allF ((allF l).rest ++ r)).st, (allF ((allF l).rest ++ r)).rest⟩ else ⟨(allF l).qs, (allF l).st, (allF l).rest ++ r⟩ := by
  intro k
  induction k with
  | zero =>
    intro l hl
    have : l = [] := List.eq_nil_of_length_eq_zero (by omega)
    subst this
    have h : rdF [] = .more := by
      cases hq : rdF [] with
      | more => rfl
      | bad st =>
        exfalso
        have hs : (spl []).err = 17 := by simp [spl, lineF, cutB]
        rw [rd_short hs] at hq; cases hq
      | ok q n => have := rd_pos hq; simp at this; omega
    rw [all_more h, if_pos rfl]
    simp
  | succ k ih =>
    intro l hl
    cases hq : rdF l with
    | more => rw [all_more hq, if_pos rfl]; simp
    | bad st =>
      have hs := rd_stays l r (by rw [hq]; intro e; cases e)
      rw [hq] at hs
      rw [all_bad hq, all_bad hs, if_neg (rd_bad_ne hq).1]
    | ok q n =>
      have hs := rd_stays l r (by rw [hq]; intro e; cases e)
      rw [hq] at hs
      obtain ⟨h1, h2⟩ := rd_pos hq
      have := ih (l.drop n) (by rw [List.length_drop]; omega)
      rw [all_ok hq, all_ok hs, List.drop_append_of_le_length h2, this]
      simp only
      split <;> simp
/-- what is left isn't a whole request -/
theorem all_rest : ∀ (k : Nat) (l : List UInt8), l.length ≤ k → (allF l).st = 0 → rdF (allF l).rest = .more := by
  intro k
  induction k with
  | zero =>
    intro l hl h
    cases hq : rdF l with
    | more => rw [all_more hq]; exact hq
    | bad st => rw [all_bad hq] at h; exact absurd h (rd_bad_ne hq).1
    | ok q n => have := rd_pos hq; omega
  | succ k ih =>
    intro l hl h
    cases hq : rdF l with
    | more => rw [all_more hq]; exact hq
    | bad st => rw [all_bad hq] at h; exact absurd h (rd_bad_ne hq).1
    | ok q n =>
      have hp := rd_pos hq
      rw [all_ok hq] at h ⊢
      exact ih (l.drop n) (by rw [List.length_drop]; omega) h
/-- what is wrong is wrong of what is left -/
theorem all_wrong : ∀ (k : Nat) (l : List UInt8), l.length ≤ k → (allF l).st ≠ 0 → rdF (allF l).rest = .bad (allF l).st := by
  intro k
  induction k with
  | zero =>
    intro l hl h
    cases hq : rdF l with
    | more => rw [all_more hq] at h; exact absurd rfl h
    | bad st => rw [all_bad hq]; exact hq
    | ok q n => have := rd_pos hq; omega
  | succ k ih =>
    intro l hl h
    cases hq : rdF l with
    | more => rw [all_more hq] at h; exact absurd rfl h
    | bad st => rw [all_bad hq]; exact hq
    | ok q n =>
      have hp := rd_pos hq
      rw [all_ok hq] at h ⊢
      exact ih (l.drop n) (by rw [List.length_drop]; omega) h
/-- each request has a byte -/
theorem all_count : ∀ (k : Nat) (l : List UInt8), l.length ≤ k → (allF l).qs.length + (allF l).rest.length ≤ l.length := by
  intro k
  induction k with
  | zero =>
    intro l hl
    cases hq : rdF l with
    | more => rw [all_more hq]; simp
    | bad st => rw [all_bad hq]; simp
    | ok q n => have := rd_pos hq; omega
  | succ k ih =>
    intro l hl
    cases hq : rdF l with
    | more => rw [all_more hq]; simp
    | bad st => rw [all_bad hq]; simp
    | ok q n =>
      have hp := rd_pos hq
      have := ih (l.drop n) (by rw [List.length_drop]; omega)
      rw [all_ok hq]
      rw [List.length_drop] at this
      show ((q :: (allF (l.drop n)).qs).length + (allF (l.drop n)).rest.length) ≤ l.length
      rw [List.length_cons]
      omega
theorem all_nil : allF [] = ⟨[], 0, []⟩ := by
  cases hq : rdF [] with
  | more => exact all_more hq
  | bad st =>
    have hs : (spl []).err = 17 := by simp [spl, lineF, cutB]
    rw [rd_short hs] at hq; cases hq
  | ok q n => have := rd_pos hq; simp at this; omega
/-- what was wrong is wrong, whatever comes; else the requests of the rest with what comes follow -/
theorem all_cut (l r : List UInt8) (h : (allF l).st = 0) : (allF (l ++ r)).qs = (allF l).qs ++ (allF ((allF l).rest ++ r)).qs ∧ (allF (l ++ r)).st = (allF ((allF l).rest ++ r)).st ∧ (allF (l ++ r)).rest = (allF ((allF l).rest ++ r)).rest := by
  rw [all_append r l.length l (Nat.le_refl _), if_pos h]
  exact ⟨rfl, rfl, rfl⟩
theorem all_cut_bad (l r : List UInt8) (h : (allF l).st ≠ 0) : (allF (l ++ r)).qs = (allF l).qs ∧ (allF (l ++ r)).st = (allF l).st := by
  rw [all_append r l.length l (Nat.le_refl _), if_neg h]
  exact ⟨rfl, rfl⟩
end Go.Proofs.YtdldoklkenhopaaDoor.In
