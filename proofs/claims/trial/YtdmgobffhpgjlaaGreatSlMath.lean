/-
  Slips and their records as plain lists of numbers: which slips can be, their bodies, their records; what bytes are read as. No program is spoken of.
-/
import Derived.Test.YtdmgobffhpgjlaaGreatCrBytes
namespace Go.Proofs.YtdmgobffhpgjlaaGreat.Sl
open Go.RowKit Go.PlainAid Go.Proofs.YtdmgobffhpgjlaaGreat.Cr
set_option linter.unusedVariables false
set_option maxRecDepth 20000

structure Sp where
  k : Int
  repo : ByteArray
  tag : ByteArray
  dig : List Nat
  ty : ByteArray
  sz : Int
  tm : Int
def zeros : List Nat := List.replicate 32 0
def none8 : ByteArray := ⟨#[]⟩
def Sp.zero : Sp := ⟨0, none8, none8, zeros, none8, 0, 0⟩
structure Dig (d : List Nat) : Prop where
  len : d.length = 32
  lt : ∀ b ∈ d, b < 256
theorem zeros_dig : Dig zeros := ⟨by simp [zeros], by intro b hb; simp [zeros] at hb; omega⟩

/-! ### which fields a kind has -/
def hT (k : Int) : Bool := k == 1 || k == 2 || k == 3
def hD (k : Int) : Bool := k == 1 || k == 4 || k == 5 || k == 6
def hM (k : Int) : Bool := k == 1 || k == 4
def hA (k : Int) : Bool := k == 1 || k == 2
structure Can (x : Sp) : Prop where
  k : 1 ≤ x.k ∧ x.k ≤ 6
  names : hT x.k = true → 1 ≤ x.repo.size ∧ x.repo.size ≤ 128 ∧ 1 ≤ x.tag.size ∧ x.tag.size ≤ 128
  noNames : hT x.k = false → x.repo = none8 ∧ x.tag = none8
  noDig : hD x.k = false → x.dig = zeros
  noMedia : hM x.k = false → x.ty = none8 ∧ x.sz = 0
  noTime : hA x.k = false → x.tm = 0
  ty : x.ty.size ≤ 100
  sz : 0 ≤ x.sz ∧ x.sz ≤ 1048576
  tm : 0 ≤ x.tm ∧ x.tm ≤ 1099511627776
  dig : Dig x.dig
open Classical in
noncomputable def canB (x : Sp) : Bool := decide (Can x)
open Classical in
theorem canB_yes {x : Sp} (h : Can x) : canB x = true := by unfold canB; exact decide_eq_true h
open Classical in
theorem canB_no {x : Sp} (h : ¬ Can x) : canB x = false := by unfold canB; exact decide_eq_false h
open Classical in
theorem canB_iff {x : Sp} : canB x = true ↔ Can x := by unfold canB; exact decide_eq_true_iff

/-! ### bytes -/
theorem bl_inj {a b : ByteArray} (h : bl a = bl b) : a = b := by
  unfold bl at h
  have h1 : a.data.toList = b.data.toList := by
    exact (List.map_inj_right fun x y e => UInt8.toNat_inj.1 e).1 h
  exact ByteArray.ext (Array.toList_inj.1 h1)
theorem strOf_bl (a : ByteArray) : strOf (bl a) = a := bl_inj (bl_strOf (bl_lt a))
theorem bl_append (a b : ByteArray) : bl (a ++ b) = bl a ++ bl b := by simp [bl, ByteArray.data_append]
theorem bl_extract (s : ByteArray) (a b : Nat) : bl (s.extract a b) = ((bl s).drop a).take (b - a) := by
  simp [bl, ByteArray.data_extract, List.map_take, List.map_drop]
theorem strOf_append {a b : List Nat} : strOf (a ++ b) = strOf a ++ strOf b := by
  apply ByteArray.ext
  simp [strOf, ByteArray.data_append]
/-- a number's bytes, the highest first -/
def be : Nat → Int → List Nat
  | 0, _ => []
  | k + 1, n => (n / 256 ^ k % 256).toNat :: be k n
theorem be_len : ∀ (k : Nat) (n : Int), (be k n).length = k
  | 0, _ => rfl
  | k + 1, n => by simp [be, be_len k]
theorem be_lt : ∀ (k : Nat) (n : Int), ∀ x ∈ be k n, x < 256
  | 0, _, x, h => by simp [be] at h
  | k + 1, n, x, h => by
    simp only [be, List.mem_cons] at h
    rcases h with rfl | h
    · omega
    · exact be_lt k n x h
/-- the number of bytes, the highest first -/
def bN (l : List Nat) : Nat := l.foldl (fun a b => a * 256 + b) 0
theorem bN_nil : bN [] = 0 := rfl
theorem bN_snoc (l : List Nat) (b : Nat) : bN (l ++ [b]) = bN l * 256 + b := by simp [bN]
theorem foldl_be (l : List Nat) : ∀ a : Nat, l.foldl (fun a b => a * 256 + b) a = a * 256 ^ l.length + bN l := by
  induction l with
  | nil => intro a; simp [bN]
  | cons b l ih =>
    intro a
    simp only [List.foldl_cons, List.length_cons]
    rw [ih, show bN (b :: l) = l.foldl (fun a b => a * 256 + b) (0 * 256 + b) from rfl, ih, Nat.pow_succ, Nat.add_mul, Nat.zero_mul, Nat.zero_add, Nat.mul_assoc, Nat.mul_comm 256]
    omega
theorem bN_cons (b : Nat) (l : List Nat) : bN (b :: l) = b * 256 ^ l.length + bN l := by
  have := foldl_be l b
  unfold bN at this ⊢
  rw [List.foldl_cons, Nat.zero_mul, Nat.zero_add]
  exact this
theorem bN_lt : ∀ (l : List Nat), (∀ x ∈ l, x < 256) → bN l < 256 ^ l.length
  | [], _ => by simp [bN]
  | b :: l, h => by
    have h1 := bN_lt l fun x hx => h x (by simp [hx])
    have h2 := h b (by simp)
    rw [bN_cons, List.length_cons, Nat.pow_succ]
    have : b * 256 ^ l.length ≤ 255 * 256 ^ l.length := Nat.mul_le_mul_right _ (by omega)
    omega
theorem bN_be : ∀ (k n : Nat), n < 256 ^ k → bN (be k (n : Int)) = n
  | 0, n, h => by simp at h; subst h; rfl
  | k + 1, n, h => by
    rw [be, bN_cons, be_len]
    have e : ((n : Int) / 256 ^ k % 256).toNat = n / 256 ^ k := by
      have h2 : n / 256 ^ k < 256 := by
        rw [Nat.div_lt_iff_lt_mul (Nat.pow_pos (by decide))]
        rw [Nat.pow_succ] at h; omega
      have h3 : ((n : Int) / 256 ^ k) = ((n / 256 ^ k : Nat) : Int) := by rw [Int.natCast_ediv, Int.natCast_pow]; rfl
      rw [h3]
      generalize n / 256 ^ k = q at h2 ⊢
      omega
    have e2 : be k (n : Int) = be k ((n % 256 ^ k : Nat) : Int) := be_mod k n
    rw [e, e2, bN_be k (n % 256 ^ k) (Nat.mod_lt _ (Nat.pow_pos (by decide)))]
    exact Nat.div_add_mod' n (256 ^ k)
where
  be_mod : ∀ (k n : Nat), be k (n : Int) = be k ((n % 256 ^ k : Nat) : Int)
  | 0, n => rfl
  | k + 1, n => by
    rw [be, be]
    have e : ∀ m : Nat, ((m : Int) / 256 ^ k % 256).toNat = m / 256 ^ k % 256 := by
      intro m
      have h3 : ((m : Int) / 256 ^ k) = ((m / 256 ^ k : Nat) : Int) := by rw [Int.natCast_ediv, Int.natCast_pow]; rfl
      rw [h3]; omega
    rw [e, e]
    congr 1
    · rw [Nat.pow_succ, Nat.mod_mul_right_div_self, Nat.mod_mod]
    · rw [be_mod k n, be_mod k (n % 256 ^ (k + 1)), Nat.pow_succ, Nat.mod_mul_right_mod]
theorem be_inj {k : Nat} {a b : Nat} (ha : a < 256 ^ k) (hb : b < 256 ^ k) (h : be k (a : Int) = be k (b : Int)) : a = b := by
  rw [← bN_be k a ha, ← bN_be k b hb, h]
theorem be_bN {l : List Nat} (h : ∀ x ∈ l, x < 256) : be l.length (bN l : Int) = l := by
  have key : ∀ (l m : List Nat), l.length = m.length → (∀ x ∈ l, x < 256) → (∀ x ∈ m, x < 256) → bN l = bN m → l = m := by
    intro l
    induction l with
    | nil => intro m hm _ _ _; exact (List.eq_nil_of_length_eq_zero (by simpa using hm.symm)).symm
    | cons a l ih =>
      intro m hm hl hmm e
      cases m with
      | nil => simp at hm
      | cons b m =>
        simp only [List.length_cons, Nat.add_right_cancel_iff] at hm
        rw [bN_cons, bN_cons, hm] at e
        have h1 := bN_lt l fun x hx => hl x (by simp [hx])
        have h2 := bN_lt m fun x hx => hmm x (by simp [hx])
        rw [hm] at h1
        have hab : a = b := by
          have e1 := congrArg (fun q => q / 256 ^ m.length) e
          rw [Nat.mul_comm a, Nat.mul_comm b, Nat.mul_add_div (Nat.pow_pos (by decide)), Nat.mul_add_div (Nat.pow_pos (by decide)), Nat.div_eq_of_lt h1, Nat.div_eq_of_lt h2] at e1
          exact e1
        subst hab
        rw [ih m hm (fun x hx => hl x (by simp [hx])) (fun x hx => hmm x (by simp [hx])) (by omega)]
  exact key _ _ (be_len _ _) (be_lt _ _) h (bN_be _ _ (bN_lt l h))

/-! ### bodies and records -/
def txt (s : ByteArray) : List Nat := (be 1 (s.size : Int)) ++ bl s
def pT (x : Sp) : List Nat := if hT x.k then txt x.repo ++ txt x.tag else []
def pD (x : Sp) : List Nat := if hD x.k then x.dig else []
def pM (x : Sp) : List Nat := if hM x.k then txt x.ty ++ be 8 x.sz else []
def pA (x : Sp) : List Nat := if hA x.k then be 8 x.tm else []
def bodyL (x : Sp) : List Nat := be 1 x.k ++ pT x ++ pD x ++ pM x ++ pA x
/-- a body's record -/
def recL (b : List Nat) : List Nat := be 2 (b.length : Int) ++ le 4 (mor 0 (be 2 (b.length : Int) ++ b)) ++ b
theorem txt_lt (s : ByteArray) : ∀ x ∈ txt s, x < 256 := by
  intro x hx
  rcases List.mem_append.1 hx with h | h
  · exact be_lt _ _ x h
  · exact bl_lt s x h
theorem txt_len (s : ByteArray) : (txt s).length = s.size + 1 := by simp [txt, be_len, bl_len]; omega
theorem body_lt {x : Sp} (h : Dig x.dig) : ∀ y ∈ bodyL x, y < 256 := by
  intro y hy
  simp only [bodyL, pT, pD, pM, pA, List.mem_append] at hy
  rcases hy with (((h1 | h1) | h1) | h1) | h1
  · exact be_lt _ _ y h1
  · split at h1
    · rcases List.mem_append.1 h1 with h2 | h2 <;> exact txt_lt _ y h2
    · simp at h1
  · split at h1
    · exact h.lt y h1
    · simp at h1
  · split at h1
    · rcases List.mem_append.1 h1 with h2 | h2
      · exact txt_lt _ y h2
      · exact be_lt _ _ y h2
    · simp at h1
  · split at h1
    · exact be_lt _ _ y h1
    · simp at h1
theorem rec_len (b : List Nat) : (recL b).length = 6 + b.length := by simp [recL, be_len, le_len]; omega
theorem rec_lt {b : List Nat} (h : ∀ y ∈ b, y < 256) : ∀ y ∈ recL b, y < 256 := by
  intro y hy
  simp only [recL, List.mem_append] at hy
  rcases hy with (h1 | h1) | h1
  · exact be_lt _ _ y h1
  · exact le_lt _ _ y h1
  · exact h y h1
theorem body_len {x : Sp} (h : Can x) : 5 ≤ (bodyL x).length ∧ (bodyL x).length ≤ 408 := by
  have h0 := h.k
  have hd := h.dig.len
  have h1 := h.names
  have h2 := h.ty
  simp only [bodyL, pT, pD, pM, pA, List.length_append, be_len]
  unfold hT hD hM hA at *
  have : x.k = 1 ∨ x.k = 2 ∨ x.k = 3 ∨ x.k = 4 ∨ x.k = 5 ∨ x.k = 6 := by omega
  rcases this with e | e | e | e | e | e <;> rw [e] at h1 ⊢ <;> simp [txt_len, be_len, hd] at h1 ⊢ <;> omega
end Go.Proofs.YtdmgobffhpgjlaaGreat.Sl
