/-
  Elements, parameters, frames in plain words: values cut at marks that aren't in quotes; how a body is framed; whether a connection ends. No program is spoken of.
-/
import Derived.Test.YtdldoklkenhopaaDoorFiList
namespace Go.Proofs.YtdldoklkenhopaaDoor.Fi
open Go.RowKit Go.PlainAid
open Hx
set_option linter.unusedVariables false
set_option maxRecDepth 20000
set_option linter.unusedSimpArgs false

/-! ### cut at marks that aren't in quotes -/
/-- what is left of a value, whether it begins in quotes, and what the part under way has by now -/
def cutQ (mark : UInt8) : List UInt8 → Bool → List UInt8 → List (List UInt8)
  | [], _, part => [trimT part]
  | c :: l, q, part =>
    if q = true ∧ c = 92 then
      match l with
      | [] => [trimT (part ++ [c])]
      | d :: l' => cutQ mark l' q (part ++ [c, d])
    else if c = 34 then cutQ mark l (!q) (part ++ [c])
    else if c = mark ∧ q = false then trimT part :: cutQ mark l q []
    else cutQ mark l q (part ++ [c])
theorem cutQ_nil (mark : UInt8) (q : Bool) (part : List UInt8) : cutQ mark [] q part = [trimT part] := by rw [cutQ]
theorem cutQ_esc (mark : UInt8) (d : UInt8) (l part : List UInt8) : cutQ mark (92 :: d :: l) true part = cutQ mark l true (part ++ [92, d]) := by
  rw [cutQ.eq_def]; simp
theorem cutQ_last (mark : UInt8) (part : List UInt8) : cutQ mark [92] true part = [trimT (part ++ [92])] := by
  rw [cutQ.eq_def]; simp
theorem cutQ_quote (mark : UInt8) (l : List UInt8) (q : Bool) (part : List UInt8) : cutQ mark (34 :: l) q part = cutQ mark l (!q) (part ++ [34]) := by
  rw [cutQ.eq_def]; simp
theorem cutQ_mark (mark : UInt8) (hm : mark ≠ 34) (l part : List UInt8) : cutQ mark (mark :: l) false part = trimT part :: cutQ mark l false [] := by
  rw [cutQ.eq_def]; simp [hm]
theorem cutQ_else (mark c : UInt8) (q : Bool) (l part : List UInt8) (h1 : ¬ (q = true ∧ c = 92)) (h2 : c ≠ 34) (h3 : ¬ (c = mark ∧ q = false)) : cutQ mark (c :: l) q part = cutQ mark l q (part ++ [c]) := by
  rw [cutQ.eq_def]; simp only; rw [if_neg h1, if_neg h2, if_neg h3]
def cutA (mark : UInt8) (l : List UInt8) : List (List UInt8) := cutQ mark l false []
theorem cutQ_bound (mark : UInt8) : ∀ (n : Nat) (l : List UInt8) (q : Bool) (part : List UInt8), l.length ≤ n → (cutQ mark l q part).length ≤ l.length + 1 ∧ ∀ p ∈ cutQ mark l q part, p.length ≤ part.length + l.length := by
  intro n
  induction n with
  | zero =>
    intro l q part hl
    have : l = [] := List.eq_nil_of_length_eq_zero (by omega)
    subst this
    rw [cutQ_nil]
    exact ⟨by simp, fun p hp => by simp at hp; subst hp; have := trimT_le part; omega⟩
  | succ n ih =>
    intro l q part hl
    cases l with
    | nil =>
      rw [cutQ_nil]
      exact ⟨by simp, fun p hp => by simp at hp; subst hp; have := trimT_le part; omega⟩
    | cons c l =>
      simp only [List.length_cons] at hl ⊢
      by_cases h1 : q = true ∧ c = 92
      · obtain ⟨rfl, rfl⟩ := h1
        cases l with
        | nil =>
          rw [cutQ_last]
          refine ⟨by simp, fun p hp => ?_⟩
          simp at hp; subst hp
          have := trimT_le (part ++ [92])
          simp at this
          simp; omega
        | cons d l =>
          rw [cutQ_esc]
          simp only [List.length_cons] at hl ⊢
          have := ih l true (part ++ [92, d]) (by omega)
          refine ⟨by omega, fun p hp => ?_⟩
          have := this.2 p hp
          simp at this
          omega
      · by_cases h2 : c = 34
        · subst h2
          rw [cutQ_quote]
          have := ih l (!q) (part ++ [34]) (by omega)
          refine ⟨by omega, fun p hp => ?_⟩
          have := this.2 p hp
          simp at this
          omega
        · by_cases h3 : c = mark ∧ q = false
          · obtain ⟨rfl, rfl⟩ := h3
            rw [cutQ_mark _ h2]
            have := ih l false [] (by omega)
            refine ⟨by simp only [List.length_cons]; omega, fun p hp => ?_⟩
            rcases List.mem_cons.1 hp with rfl | hp
            · have := trimT_le part; omega
            · have := this.2 p hp
              simp at this
              omega
          · rw [cutQ_else mark c q l part h1 h2 h3]
            have := ih l q (part ++ [c]) (by omega)
            refine ⟨by omega, fun p hp => ?_⟩
            have := this.2 p hp
            simp at this
            omega
theorem cutA_bound (mark : UInt8) (l : List UInt8) : (cutA mark l).length ≤ l.length + 1 ∧ ∀ p ∈ cutA mark l, p.length ≤ l.length := by
  have := cutQ_bound mark l.length l false [] (Nat.le_refl _)
  exact ⟨this.1, fun p hp => by have := this.2 p hp; simpa using this⟩
theorem cutQ_ne (mark : UInt8) : ∀ (n : Nat) (l : List UInt8) (q : Bool) (part : List UInt8), l.length ≤ n → cutQ mark l q part ≠ [] := by
  intro n
  induction n with
  | zero =>
    intro l q part hl
    have : l = [] := List.eq_nil_of_length_eq_zero (by omega)
    subst this
    rw [cutQ_nil]; simp
  | succ n ih =>
    intro l q part hl
    cases l with
    | nil => rw [cutQ_nil]; simp
    | cons c l =>
      simp only [List.length_cons] at hl
      by_cases h1 : q = true ∧ c = 92
      · obtain ⟨rfl, rfl⟩ := h1
        cases l with
        | nil => rw [cutQ_last]; simp
        | cons d l => rw [cutQ_esc]; simp only [List.length_cons] at hl; exact ih l _ _ (by omega)
      · by_cases h2 : c = 34
        · subst h2; rw [cutQ_quote]; exact ih l _ _ (by omega)
        · by_cases h3 : c = mark ∧ q = false
          · obtain ⟨rfl, rfl⟩ := h3
            rw [cutQ_mark _ h2]; simp
          · rw [cutQ_else mark c q l part h1 h2 h3]; exact ih l _ _ (by omega)

/-! ### elements -/
def elsF (s : ByteArray) : List ByteArray := fillF ((cutA 44 (ls s)).map tx)
def elemsF (name : List UInt8) (xs : List Fd) : List ByteArray := ((valsF name xs).map elsF).flatten
theorem elsF_bound (s : ByteArray) : (elsF s).length ≤ s.size + 1 ∧ ∀ p ∈ elsF s, p.size ≤ s.size := by
  have b := cutA_bound 44 (ls s)
  rw [ls_len] at b
  unfold elsF fillF
  refine ⟨Nat.le_trans (List.length_filter_le _ _) (by rw [List.length_map]; exact b.1), fun p hp => ?_⟩
  obtain ⟨q, hq, rfl⟩ := List.mem_map.1 (List.mem_filter.1 hp).1
  rw [tx_size]
  exact b.2 q hq
theorem sameL_low {a b n : List UInt8} (h : low a = low b) : sameL n a = sameL n b := by unfold sameL; rw [h]
theorem valsF_low {a b : List UInt8} (h : low a = low b) (xs : List Fd) : valsF a xs = valsF b xs := by
  unfold valsF
  congr 2
  funext f
  exact sameL_low h
/-- whether one of the texts is the word -/
def hasF (word : List UInt8) (ss : List ByteArray) : Bool := ss.any fun s => sameL (ls s) word
def nCon : ByteArray := ⟨#[67, 111, 110, 110, 101, 99, 116, 105, 111, 110]⟩
def wClose : ByteArray := ⟨#[99, 108, 111, 115, 101]⟩
def wKeep : ByteArray := ⟨#[107, 101, 101, 112, 45, 97, 108, 105, 118, 101]⟩
def closesF (xs : List Fd) (minor : Int) : Bool :=
  if hasF (ls wClose) (elemsF (ls nCon) xs) = true then true
  else if hasF (ls wKeep) (elemsF (ls nCon) xs) = true then false
  else decide (minor < 1)

/-! ### frames -/
def nTE : ByteArray := ⟨#[84, 114, 97, 110, 115, 102, 101, 114, 45, 69, 110, 99, 111, 100, 105, 110, 103]⟩
def nCL : ByteArray := ⟨#[67, 111, 110, 116, 101, 110, 116, 45, 76, 101, 110, 103, 116, 104]⟩
def wChunked : ByteArray := ⟨#[99, 104, 117, 110, 107, 101, 100]⟩
open Classical in
noncomputable def undN (s : ByteArray) (m : Int) : Int := if DecForm s then (if s.size ≤ 19 then amN (decTo s s.size) m else 0) else 0
open Classical in
noncomputable def undE (s : ByteArray) (m : Int) : Int := if DecForm s then (if s.size ≤ 19 then amE (decTo s s.size) m else 14) else 3
noncomputable def lenN (s : ByteArray) (m : Int) : Int := if undE s m = 14 then 0 else undN s m
noncomputable def lenE (s : ByteArray) (m : Int) : Int := if undE s m = 14 then 4 else undE s m
structure Fr where
  n : Int
  c : Bool
  e : Int
noncomputable def frF (xs : List Fd) (m : Int) : Fr :=
  if getN (ls nTE) xs = 0 ∧ getN (ls nCL) xs = 0 then ⟨-1, false, 0⟩
  else if 1 < getN (ls nTE) xs + getN (ls nCL) xs then ⟨0, false, 3⟩
  else if getN (ls nCL) xs = 1 then ⟨lenN (getS (ls nCL) xs) m, false, lenE (getS (ls nCL) xs) m⟩
  else if sameL (ls (getS (ls nTE) xs)) (ls wChunked) = true then ⟨0, true, 0⟩
  else ⟨0, false, 3⟩
theorem am_cases (n m : Int) : (amE n m = 0 ∧ amN n m = n ∧ 0 ≤ m ∧ n ≤ m) ∨ (amE n m = 14 ∧ amN n m = 0) := by
  unfold amE amN
  split
  · rename_i h; exact .inl ⟨rfl, rfl, h.1, h.2.1⟩
  · exact .inr ⟨rfl, rfl⟩
theorem und_cases (s : ByteArray) (m : Int) : (undE s m = 0 ∧ 0 ≤ undN s m ∧ undN s m ≤ m) ∨ ((undE s m = 14 ∨ undE s m = 3) ∧ undN s m = 0) := by
  unfold undE undN
  by_cases h : DecForm s
  · rw [if_pos h, if_pos h]
    by_cases c : s.size ≤ 19
    · rw [if_pos c, if_pos c]
      have d := decTo_fits h.2.2 c s.size (Nat.le_refl _)
      rcases am_cases (decTo s s.size) m with ⟨e1, e2, e3, e4⟩ | ⟨e1, e2⟩
      · rw [e1, e2]; exact .inl ⟨rfl, d.1, e4⟩
      · rw [e1, e2]; exact .inr ⟨.inl rfl, rfl⟩
    · rw [if_neg c, if_neg c]; exact .inr ⟨.inl rfl, rfl⟩
  · rw [if_neg h, if_neg h]; exact .inr ⟨.inr rfl, rfl⟩

/-! ### parameters -/
/-- the text of what stands behind a quote, up to the last one -/
def uqF : List UInt8 → List UInt8 → Option (List UInt8)
  | [], _ => none
  | c :: l, acc =>
    if c = 34 then (if l = [] then some acc else none)
    else if c = 92 then
      match l with
      | [] => none
      | d :: l' => uqF l' (acc ++ [d])
    else uqF l (acc ++ [c])
theorem uqF_nil (acc : List UInt8) : uqF [] acc = none := by rw [uqF]
theorem uqF_end (acc : List UInt8) : uqF [34] acc = some acc := by rw [uqF.eq_def]; simp
theorem uqF_quote {l : List UInt8} (acc : List UInt8) (h : l ≠ []) : uqF (34 :: l) acc = none := by rw [uqF.eq_def]; simp [h]
theorem uqF_esc (d : UInt8) (l acc : List UInt8) : uqF (92 :: d :: l) acc = uqF l (acc ++ [d]) := by rw [uqF.eq_def]; simp
theorem uqF_last (acc : List UInt8) : uqF [92] acc = none := by rw [uqF.eq_def]; simp
theorem uqF_else {c : UInt8} (l acc : List UInt8) (h1 : c ≠ 34) (h2 : c ≠ 92) : uqF (c :: l) acc = uqF l (acc ++ [c]) := by
  rw [uqF.eq_def]; simp only; rw [if_neg h1, if_neg h2]
def quoF : List UInt8 → Option (List UInt8)
  | [] => none
  | c :: l => if c = 34 then uqF l [] else none
def valF (l : List UInt8) : Option (List UInt8) := if isTok l = true then some l else quoF l
def parF (l : List UInt8) : Option Fd :=
  match cutB 61 l with
  | none => none
  | some (x, y) => if isTok x = true then (valF y).map fun v => ⟨tx (low x), tx v⟩ else none
/-- the parameters of parts, behind those that are there -/
def parsF : List ByteArray → List Fd → Option (List Fd)
  | [], acc => some acc
  | p :: ps, acc => match parF (ls p) with
    | none => none
    | some f => parsF ps (acc ++ [f])
structure Pm where
  h : ByteArray
  list : List Fd
  e : Int
def pmF (s : ByteArray) : Pm :=
  match parsF (fillF (((cutA 59 (ls s)).drop 1).map tx)) [] with
  | none => ⟨⟨#[]⟩, [], 3⟩
  | some l => ⟨((((cutA 59 (ls s)).map tx)[0]?).getD ⟨#[]⟩), l, 0⟩
end Go.Proofs.YtdldoklkenhopaaDoor.Fi
