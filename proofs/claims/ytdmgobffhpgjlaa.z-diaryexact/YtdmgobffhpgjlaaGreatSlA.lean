/-
  Slips and their records as plain lists of numbers: which slips can be, their bodies, their records; what bytes are read as. No program is spoken of.
  What bytes are read as: one record, and records one behind the other; what was written is read, what is cut off or turned isn't. No program is spoken of.
-/
import Derived.Test.YtdmgobffhpgjlaaGreatCrSet
section
namespace Go.Proofs.YtdmgobffhpgjlaaGreat.Sl
open Go.RowKit Go.PlainAid Go.Proofs.YtdmgobffhpgjlaaGreat.Cr
set_option linter.unusedVariables false
set_option maxRecDepth 20000

structure Sp where
  k : Int
  repo : ByteArray
  tag : ByteArray
  dig : List Nat
  ty : ByteArray
  sz : Int
  tm : Int
def zeros : List Nat := List.replicate 32 0
def none8 : ByteArray := ⟨#[]⟩
def Sp.zero : Sp := ⟨0, none8, none8, zeros, none8, 0, 0⟩
structure Dig (d : List Nat) : Prop where
  len : d.length = 32
  lt : ∀ b ∈ d, b < 256
theorem zeros_dig : Dig zeros := ⟨by simp [zeros], by intro b hb; simp [zeros] at hb; omega⟩

/-! ### which fields a kind has -/
def hT (k : Int) : Bool := k == 1 || k == 2 || k == 3
def hD (k : Int) : Bool := k == 1 || k == 4 || k == 5 || k == 6
def hM (k : Int) : Bool := k == 1 || k == 4
def hA (k : Int) : Bool := k == 1 || k == 2
structure Can (x : Sp) : Prop where
  k : 1 ≤ x.k ∧ x.k ≤ 6
  names : hT x.k = true → 1 ≤ x.repo.size ∧ x.repo.size ≤ 128 ∧ 1 ≤ x.tag.size ∧ x.tag.size ≤ 128
  noNames : hT x.k = false → x.repo = none8 ∧ x.tag = none8
  noDig : hD x.k = false → x.dig = zeros
  noMedia : hM x.k = false → x.ty = none8 ∧ x.sz = 0
  noTime : hA x.k = false → x.tm = 0
  ty : x.ty.size ≤ 100
  sz : 0 ≤ x.sz ∧ x.sz ≤ 1048576
  tm : 0 ≤ x.tm ∧ x.tm ≤ 1099511627776
  dig : Dig x.dig
open Classical in
noncomputable def canB (x : Sp) : Bool := decide (Can x)
open Classical in
theorem canB_yes {x : Sp} (h : Can x) : canB x = true := by unfold canB; exact decide_eq_true h
open Classical in
theorem canB_no {x : Sp} (h : ¬ Can x) : canB x = false := by unfold canB; exact decide_eq_false h
open Classical in
theorem canB_iff {x : Sp} : canB x = true ↔ Can x := by unfold canB; exact decide_eq_true_iff

/-! ### bytes -/
theorem bl_inj {a b : ByteArray} (h : bl a = bl b) : a = b := by
  unfold bl at h
  have h1 : a.data.toList = b.data.toList := by
    exact (List.map_inj_right fun x y e => UInt8.toNat_inj.1 e).1 h
  exact ByteArray.ext (Array.toList_inj.1 h1)
theorem strOf_bl (a : ByteArray) : strOf (bl a) = a := bl_inj (bl_strOf (bl_lt a))
theorem bl_append (a b : ByteArray) : bl (a ++ b) = bl a ++ bl b := by simp [bl, ByteArray.data_append]
theorem bl_extract (s : ByteArray) (a b : Nat) : bl (s.extract a b) = ((bl s).drop a).take (b - a) := by
  simp [bl, ByteArray.data_extract, List.map_take, List.map_drop]
theorem strOf_append {a b : List Nat} : strOf (a ++ b) = strOf a ++ strOf b := by
  apply ByteArray.ext
  simp [strOf, ByteArray.data_append]
/-- a number's bytes, the highest first -/
def be : Nat → Int → List Nat
  | 0, _ => []
  | k + 1, n => (n / 256 ^ k % 256).toNat :: be k n
theorem be_len : ∀ (k : Nat) (n : Int), (be k n).length = k
  | 0, _ => rfl
  | k + 1, n => by simp [be, be_len k]
theorem be_lt : ∀ (k : Nat) (n : Int), ∀ x ∈ be k n, x < 256
  | 0, _, x, h => by simp [be] at h
  | k + 1, n, x, h => by
    simp only [be, List.mem_cons] at h
    rcases h with rfl | h
    · omega
    · exact be_lt k n x h
/-- the number of bytes, the highest first -/
def bN (l : List Nat) : Nat := l.foldl (fun a b => a * 256 + b) 0
theorem bN_nil : bN [] = 0 := rfl
theorem bN_snoc (l : List Nat) (b : Nat) : bN (l ++ [b]) = bN l * 256 + b := by simp [bN]
theorem foldl_be (l : List Nat) : ∀ a : Nat, l.foldl (fun a b => a * 256 + b) a = a * 256 ^ l.length + bN l := by
  induction l with
  | nil => intro a; simp [bN]
  | cons b l ih =>
    intro a
    simp only [List.foldl_cons, List.length_cons]
    rw [ih, show bN (b :: l) = l.foldl (fun a b => a * 256 + b) (0 * 256 + b) from rfl, ih, Nat.pow_succ, Nat.add_mul, Nat.zero_mul, Nat.zero_add, Nat.mul_assoc, Nat.mul_comm 256]
    omega
theorem bN_cons (b : Nat) (l : List Nat) : bN (b :: l) = b * 256 ^ l.length + bN l := by
  have := foldl_be l b
  unfold bN at this ⊢
  rw [List.foldl_cons, Nat.zero_mul, Nat.zero_add]
  exact this
theorem bN_lt : ∀ (l : List Nat), (∀ x ∈ l, x < 256) → bN l < 256 ^ l.length
  | [], _ => by simp [bN]
  | b :: l, h => by
    have h1 := bN_lt l fun x hx => h x (by simp [hx])
    have h2 := h b (by simp)
    rw [bN_cons, List.length_cons, Nat.pow_succ]
    have : b * 256 ^ l.length ≤ 255 * 256 ^ l.length := Nat.mul_le_mul_right _ (by omega)
    omega
theorem bN_be : ∀ (k n : Nat), n < 256 ^ k → bN (be k (n : Int)) = n
  | 0, n, h => by simp at h; subst h; rfl
  | k + 1, n, h => by
    rw [be, bN_cons, be_len]
    have e : ((n : Int) / 256 ^ k % 256).toNat = n / 256 ^ k := by
      have h2 : n / 256 ^ k < 256 := by
        rw [Nat.div_lt_iff_lt_mul (Nat.pow_pos (by decide))]
        rw [Nat.pow_succ] at h; omega
      have h3 : ((n : Int) / 256 ^ k) = ((n / 256 ^ k : Nat) : Int) := by rw [Int.natCast_ediv, Int.natCast_pow]; rfl
      rw [h3]
      generalize n / 256 ^ k = q at h2 ⊢
      omega
    have e2 : be k (n : Int) = be k ((n % 256 ^ k : Nat) : Int) := be_mod k n
    rw [e, e2, bN_be k (n % 256 ^ k) (Nat.mod_lt _ (Nat.pow_pos (by decide)))]
    exact Nat.div_add_mod' n (256 ^ k)
where
  be_mod : ∀ (k n : Nat), be k (n : Int) = be k ((n % 256 ^ k : Nat) : Int)
  | 0, n => rfl
  | k + 1, n => by
    rw [be, be]
    have e : ∀ m : Nat, ((m : Int) / 256 ^ k % 256).toNat = m / 256 ^ k % 256 := by
      intro m
      have h3 : ((m : Int) / 256 ^ k) = ((m / 256 ^ k : Nat) : Int) := by rw [Int.natCast_ediv, Int.natCast_pow]; rfl
      rw [h3]; omega
    rw [e, e]
    congr 1
    · rw [Nat.pow_succ, Nat.mod_mul_right_div_self, Nat.mod_mod]
    · rw [be_mod k n, be_mod k (n % 256 ^ (k + 1)), Nat.pow_succ, Nat.mod_mul_right_mod]
theorem be_inj {k : Nat} {a b : Nat} (ha : a < 256 ^ k) (hb : b < 256 ^ k) (h : be k (a : Int) = be k (b : Int)) : a = b := by
  rw [← bN_be k a ha, ← bN_be k b hb, h]
theorem be_bN {l : List Nat} (h : ∀ x ∈ l, x < 256) : be l.length (bN l : Int) = l := by
  have key : ∀ (l m : List Nat), l.length = m.length → (∀ x ∈ l, x < 256) → (∀ x ∈ m, x < 256) → bN l = bN m → l = m := by
    intro l
    induction l with
    | nil => intro m hm _ _ _; exact (List.eq_nil_of_length_eq_zero (by simpa using hm.symm)).symm
    | cons a l ih =>
      intro m hm hl hmm e
      cases m with
      | nil => simp at hm
      | cons b m =>
        simp only [List.length_cons, Nat.add_right_cancel_iff] at hm
        rw [bN_cons, bN_cons, hm] at e
        have h1 := bN_lt l fun x hx => hl x (by simp [hx])
        have h2 := bN_lt m fun x hx => hmm x (by simp [hx])
        rw [hm] at h1
        have hab : a = b := by
          have e1 := congrArg (fun q => q / 256 ^ m.length) e
          rw [Nat.mul_comm a, Nat.mul_comm b, Nat.mul_add_div (Nat.pow_pos (by decide)), Nat.mul_add_div (Nat.pow_pos (by decide)), Nat.div_eq_of_lt h1, Nat.div_eq_of_lt h2] at e1
          exact e1
        subst hab
        rw [ih m hm (fun x hx => hl x (by simp [hx])) (fun x hx => hmm x (by simp [hx])) (by omega)]
  exact key _ _ (be_len _ _) (be_lt _ _) h (bN_be _ _ (bN_lt l h))

/-! ### bodies and records -/
def txt (s : ByteArray) : List Nat := (be 1 (s.size : Int)) ++ bl s
def pT (x : Sp) : List Nat := if hT x.k then txt x.repo ++ txt x.tag else []
def pD (x : Sp) : List Nat := if hD x.k then x.dig else []
def pM (x : Sp) : List Nat := if hM x.k then txt x.ty ++ be 8 x.sz else []
def pA (x : Sp) : List Nat := if hA x.k then be 8 x.tm else []
def bodyL (x : Sp) : List Nat := be 1 x.k ++ pT x ++ pD x ++ pM x ++ pA x
/-- a body's record -/
def recL (b : List Nat) : List Nat := be 2 (b.length : Int) ++ le 4 (mor 0 (be 2 (b.length : Int) ++ b)) ++ b
theorem txt_lt (s : ByteArray) : ∀ x ∈ txt s, x < 256 := by
  intro x hx
  rcases List.mem_append.1 hx with h | h
  · exact be_lt _ _ x h
  · exact bl_lt s x h
theorem txt_len (s : ByteArray) : (txt s).length = s.size + 1 := by simp [txt, be_len, bl_len]; omega
theorem body_lt {x : Sp} (h : Dig x.dig) : ∀ y ∈ bodyL x, y < 256 := by
  intro y hy
  simp only [bodyL, pT, pD, pM, pA, List.mem_append] at hy
  rcases hy with (((h1 | h1) | h1) | h1) | h1
  · exact be_lt _ _ y h1
  · split at h1
    · rcases List.mem_append.1 h1 with h2 | h2 <;> exact txt_lt _ y h2
    · simp at h1
  · split at h1
    · exact h.lt y h1
    · simp at h1
  · split at h1
    · rcases List.mem_append.1 h1 with h2 | h2
      · exact txt_lt _ y h2
      · exact be_lt _ _ y h2
    · simp at h1
  · split at h1
    · exact be_lt _ _ y h1
    · simp at h1
theorem rec_len (b : List Nat) : (recL b).length = 6 + b.length := by simp [recL, be_len, le_len]; omega
theorem rec_lt {b : List Nat} (h : ∀ y ∈ b, y < 256) : ∀ y ∈ recL b, y < 256 := by
  intro y hy
  simp only [recL, List.mem_append] at hy
  rcases hy with (h1 | h1) | h1
  · exact be_lt _ _ y h1
  · exact le_lt _ _ y h1
  · exact h y h1
theorem body_len {x : Sp} (h : Can x) : 5 ≤ (bodyL x).length ∧ (bodyL x).length ≤ 408 := by
  have h0 := h.k
  have hd := h.dig.len
  have h1 := h.names
  have h2 := h.ty
  simp only [bodyL, pT, pD, pM, pA, List.length_append, be_len]
  unfold hT hD hM hA at *
  have : x.k = 1 ∨ x.k = 2 ∨ x.k = 3 ∨ x.k = 4 ∨ x.k = 5 ∨ x.k = 6 := by omega
  rcases this with e | e | e | e | e | e <;> rw [e] at h1 ⊢ <;> simp [txt_len, be_len, hd] at h1 ⊢ <;> omega
end Go.Proofs.YtdmgobffhpgjlaaGreat.Sl
end

section
namespace Go.Proofs.YtdmgobffhpgjlaaGreat.Sl
open Go.RowKit Go.PlainAid Go.Proofs.YtdmgobffhpgjlaaGreat.Cr
set_option linter.unusedVariables false
set_option maxRecDepth 20000

theorem app_inj {a b c d : List Nat} (h : a ++ b = c ++ d) (hl : a.length = c.length) : a = c ∧ b = d := List.append_inj h hl
theorem txt_inj {a b : ByteArray} {c d : List Nat} (ha : a.size < 256) (hb : b.size < 256) (h : txt a ++ c = txt b ++ d) : a = b ∧ c = d := by
  unfold txt at h
  rw [List.append_assoc, List.append_assoc] at h
  obtain ⟨h1, h2⟩ := app_inj h (by rw [be_len, be_len])
  have hs := be_inj (k := 1) (by simpa using ha) (by simpa using hb) h1
  obtain ⟨h3, h4⟩ := app_inj h2 (by rw [bl_len, bl_len, hs])
  exact ⟨bl_inj h3, h4⟩
theorem be8_inj {a b : Int} {c d : List Nat} (ha : 0 ≤ a ∧ a < 18446744073709551616) (hb : 0 ≤ b ∧ b < 18446744073709551616) (h : be 8 a ++ c = be 8 b ++ d) : a = b ∧ c = d := by
  obtain ⟨h1, h2⟩ := app_inj h (by rw [be_len, be_len])
  obtain ⟨m, rfl⟩ : ∃ m : Nat, a = (m : Int) := ⟨a.toNat, by omega⟩
  obtain ⟨n, rfl⟩ : ∃ n : Nat, b = (n : Int) := ⟨b.toNat, by omega⟩
  have := be_inj (k := 8) (by simp; omega) (by simp; omega) h1
  exact ⟨by rw [this], h2⟩
/-- a slip that can be has a body of its own -/
theorem body_inj {x y : Sp} (hx : Can x) (hy : Can y) (h : bodyL x = bodyL y) : x = y := by
  have h' : be 1 x.k ++ (pT x ++ pD x ++ pM x ++ pA x) = be 1 y.k ++ (pT y ++ pD y ++ pM y ++ pA y) := by
    unfold bodyL at h
    simpa [List.append_assoc] using h
  obtain ⟨h1, h2⟩ := app_inj h' (by rw [be_len, be_len])
  have hk : x.k = y.k := by
    obtain ⟨m, hm⟩ : ∃ m : Nat, x.k = (m : Int) := ⟨x.k.toNat, by have := hx.k; omega⟩
    obtain ⟨n, hn⟩ : ∃ n : Nat, y.k = (n : Int) := ⟨y.k.toNat, by have := hy.k; omega⟩
    rw [hm, hn] at h1 ⊢
    have h3 := hx.k
    have h4 := hy.k
    rw [be_inj (k := 1) (by simp; omega) (by simp; omega) h1]
  have n1 := hx.names; have n2 := hy.names
  have o1 := hx.noNames; have o2 := hy.noNames
  have d1 := hx.noDig; have d2 := hy.noDig
  have m1 := hx.noMedia; have m2 := hy.noMedia
  have a1 := hx.noTime; have a2 := hy.noTime
  have l1 := hx.dig.len; have l2 := hy.dig.len
  have s1 := hx.sz; have s2 := hy.sz
  have t1 := hx.tm; have t2 := hy.tm
  have y1 := hx.ty; have y2 := hy.ty
  unfold pT pD pM pA at h2
  obtain ⟨k, r, t, d, m, s, a⟩ := x
  obtain ⟨k', r', t', d', m', s', a'⟩ := y
  dsimp only at *
  subst hk
  have hT' : r = r' ∧ t = t' ∧ ((if hD k then d else []) ++ ((if hM k then txt m ++ be 8 s else []) ++ (if hA k then be 8 a else []))) = ((if hD k then d' else []) ++ ((if hM k then txt m' ++ be 8 s' else []) ++ (if hA k then be 8 a' else []))) := by
    cases e : hT k
    · obtain ⟨rfl, rfl⟩ := o1 e
      obtain ⟨rfl, rfl⟩ := o2 e
      refine ⟨rfl, rfl, ?_⟩
      simpa [e, List.append_assoc] using h2
    · have p1 := n1 e
      have p2 := n2 e
      simp only [e, if_true, List.append_assoc] at h2
      obtain ⟨e1, h3⟩ := txt_inj (by omega) (by omega) h2
      obtain ⟨e2, h4⟩ := txt_inj (by omega) (by omega) h3
      exact ⟨e1, e2, h4⟩
  obtain ⟨rfl, rfl, h3⟩ := hT'
  have hD' : d = d' ∧ ((if hM k then txt m ++ be 8 s else []) ++ (if hA k then be 8 a else [])) = ((if hM k then txt m' ++ be 8 s' else []) ++ (if hA k then be 8 a' else [])) := by
    cases e : hD k
    · rw [d1 e, d2 e]
      refine ⟨rfl, ?_⟩
      simpa [e] using h3
    · simp only [e, if_true] at h3
      exact app_inj h3 (by rw [l1, l2])
  obtain ⟨rfl, h4⟩ := hD'
  have hM' : m = m' ∧ s = s' ∧ (if hA k then be 8 a else []) = (if hA k then be 8 a' else []) := by
    cases e : hM k
    · obtain ⟨rfl, rfl⟩ := m1 e
      obtain ⟨rfl, rfl⟩ := m2 e
      refine ⟨rfl, rfl, ?_⟩
      simpa [e] using h4
    · simp only [e, if_true, List.append_assoc] at h4
      obtain ⟨e1, h5⟩ := txt_inj (by omega) (by omega) h4
      obtain ⟨e2, h6⟩ := be8_inj (by omega) (by omega) h5
      exact ⟨e1, e2, h6⟩
  obtain ⟨rfl, rfl, h5⟩ := hM'
  have hA' : a = a' := by
    cases e : hA k
    · rw [a1 e, a2 e]
    · simp only [e, if_true] at h5
      exact (be8_inj (c := []) (d := []) (by omega) (by omega) (by simpa using h5)).1
  rw [hA']

/-! ### one record -/
def len2 (l : List Nat) : Nat := bN (l.take 2)
def bodyOf (l : List Nat) : List Nat := (l.drop 6).take (len2 l)
open Classical in
noncomputable def RD (l : List Nat) : Sp × Int × Int :=
  if l.length < 6 then (Sp.zero, 0, 17)
  else if len2 l = 0 ∨ 1024 < len2 l then (Sp.zero, 0, 3)
  else if l.length < 6 + len2 l then (Sp.zero, 0, 17)
  else if (l.drop 2).take 4 ≠ le 4 (mor 0 (l.take 2 ++ bodyOf l)) then (Sp.zero, 0, 5)
  else if h : ∃ x, Can x ∧ bodyL x = bodyOf l then (h.choose, ((6 + len2 l : Nat) : Int), 0)
  else (Sp.zero, 0, 3)
theorem rd_few {l : List Nat} (h : l.length < 6) : RD l = (Sp.zero, 0, 17) := by unfold RD; rw [if_pos h]
theorem rd_none {l : List Nat} (h : ¬ l.length < 6) (h1 : len2 l = 0 ∨ 1024 < len2 l) : RD l = (Sp.zero, 0, 3) := by unfold RD; rw [if_neg h, if_pos h1]
theorem rd_short {l : List Nat} (h : ¬ l.length < 6) (h1 : ¬ (len2 l = 0 ∨ 1024 < len2 l)) (h2 : l.length < 6 + len2 l) : RD l = (Sp.zero, 0, 17) := by unfold RD; rw [if_neg h, if_neg h1, if_pos h2]
theorem rd_sum {l : List Nat} (h : ¬ l.length < 6) (h1 : ¬ (len2 l = 0 ∨ 1024 < len2 l)) (h2 : ¬ l.length < 6 + len2 l) (h3 : (l.drop 2).take 4 ≠ le 4 (mor 0 (l.take 2 ++ bodyOf l))) : RD l = (Sp.zero, 0, 5) := by
  unfold RD; rw [if_neg h, if_neg h1, if_neg h2, if_pos h3]
theorem rd_yes {l : List Nat} (h : ¬ l.length < 6) (h1 : ¬ (len2 l = 0 ∨ 1024 < len2 l)) (h2 : ¬ l.length < 6 + len2 l) (h3 : (l.drop 2).take 4 = le 4 (mor 0 (l.take 2 ++ bodyOf l))) {x : Sp} (hx : Can x) (hb : bodyL x = bodyOf l) : RD l = (x, ((6 + len2 l : Nat) : Int), 0) := by
  have hex : ∃ x, Can x ∧ bodyL x = bodyOf l := ⟨x, hx, hb⟩
  unfold RD
  rw [if_neg h, if_neg h1, if_neg h2, if_neg (by simpa using h3), dif_pos hex]
  have hc := hex.choose_spec
  rw [body_inj hc.1 hx (hc.2.trans hb.symm)]
theorem rd_form {l : List Nat} (h : ¬ l.length < 6) (h1 : ¬ (len2 l = 0 ∨ 1024 < len2 l)) (h2 : ¬ l.length < 6 + len2 l) (h3 : (l.drop 2).take 4 = le 4 (mor 0 (l.take 2 ++ bodyOf l))) (hx : ∀ x, Can x → bodyL x ≠ bodyOf l) : RD l = (Sp.zero, 0, 3) := by
  unfold RD
  rw [if_neg h, if_neg h1, if_neg h2, if_neg (by simpa using h3), dif_neg (by rintro ⟨x, a, b⟩; exact hx x a b)]
/-- where a record ends there was one -/
theorem rd_ok {l : List Nat} (h : (RD l).2.2 = 0) : Can (RD l).1 ∧ ∃ n : Nat, (RD l).2.1 = (n : Int) ∧ 6 ≤ n ∧ n ≤ l.length := by
  by_cases c1 : l.length < 6
  · rw [rd_few c1] at h; cases h
  by_cases c2 : len2 l = 0 ∨ 1024 < len2 l
  · rw [rd_none c1 c2] at h; cases h
  by_cases c3 : l.length < 6 + len2 l
  · rw [rd_short c1 c2 c3] at h; cases h
  by_cases c4 : (l.drop 2).take 4 = le 4 (mor 0 (l.take 2 ++ bodyOf l))
  · by_cases c5 : ∃ x, Can x ∧ bodyL x = bodyOf l
    · obtain ⟨x, hx, hb⟩ := c5
      rw [rd_yes c1 c2 c3 c4 hx hb]
      exact ⟨hx, 6 + len2 l, rfl, by omega, by omega⟩
    · rw [rd_form c1 c2 c3 c4 (fun x a b => c5 ⟨x, a, b⟩)] at h; cases h
  · rw [rd_sum c1 c2 c3 c4] at h; cases h
theorem rd_err {l : List Nat} (h : (RD l).2.2 ≠ 0) : (RD l).1 = Sp.zero ∧ (RD l).2.1 = 0 ∧ ((RD l).2.2 = 3 ∨ (RD l).2.2 = 5 ∨ (RD l).2.2 = 17) := by
  by_cases c1 : l.length < 6
  · rw [rd_few c1]; simp
  by_cases c2 : len2 l = 0 ∨ 1024 < len2 l
  · rw [rd_none c1 c2]; simp
  by_cases c3 : l.length < 6 + len2 l
  · rw [rd_short c1 c2 c3]; simp
  by_cases c4 : (l.drop 2).take 4 = le 4 (mor 0 (l.take 2 ++ bodyOf l))
  · by_cases c5 : ∃ x, Can x ∧ bodyL x = bodyOf l
    · obtain ⟨x, hx, hb⟩ := c5
      rw [rd_yes c1 c2 c3 c4 hx hb] at h
      exact absurd rfl h
    · rw [rd_form c1 c2 c3 c4 (fun x a b => c5 ⟨x, a, b⟩)]; simp
  · rw [rd_sum c1 c2 c3 c4]; simp

/-! ### what begins as a record -/
/-- two bytes of a length, four of a sum, a body, and more -/
theorem parts {n : Nat} (hn : n ≤ 1024) {s q t : List Nat} (hs : s.length = 4) (hq : q.length = n) :
    len2 (be 2 (n : Int) ++ s ++ q ++ t) = n ∧ bodyOf (be 2 (n : Int) ++ s ++ q ++ t) = q ∧ (be 2 (n : Int) ++ s ++ q ++ t).take 2 = be 2 (n : Int) ∧ ((be 2 (n : Int) ++ s ++ q ++ t).drop 2).take 4 = s ∧ (be 2 (n : Int) ++ s ++ q ++ t).length = 6 + n + t.length := by
  have e1 : (be 2 (n : Int) ++ s ++ q ++ t).take 2 = be 2 (n : Int) := by
    rw [List.append_assoc, List.append_assoc]
    exact List.take_left' (be_len _ _)
  have e2 : len2 (be 2 (n : Int) ++ s ++ q ++ t) = n := by
    unfold len2
    rw [e1, bN_be 2 n (by simp; omega)]
  refine ⟨e2, ?_, e1, ?_, ?_⟩
  · unfold bodyOf
    rw [e2, List.append_assoc, List.drop_left' (by simp [be_len, hs]), List.take_left' hq]
  · rw [List.append_assoc, List.append_assoc, List.drop_left' (be_len _ _), List.take_left' hs]
  · simp [be_len, hs, hq]; omega
theorem rd_rec {x : Sp} (h : Can x) (t : List Nat) : RD (recL (bodyL x) ++ t) = (x, (((recL (bodyL x)).length : Nat) : Int), 0) := by
  obtain ⟨b1, b2⟩ := body_len h
  obtain ⟨p1, p2, p3, p4, p5⟩ := parts (n := (bodyL x).length) (by omega) (s := le 4 (mor 0 (be 2 ((bodyL x).length : Int) ++ bodyL x))) (q := bodyL x) (t := t) (le_len _ _) rfl
  have e : recL (bodyL x) ++ t = be 2 ((bodyL x).length : Int) ++ le 4 (mor 0 (be 2 ((bodyL x).length : Int) ++ bodyL x)) ++ bodyL x ++ t := rfl
  rw [e, rec_len]
  have := rd_yes (l := be 2 ((bodyL x).length : Int) ++ le 4 (mor 0 (be 2 ((bodyL x).length : Int) ++ bodyL x)) ++ bodyL x ++ t) (by omega) (by omega) (by omega) (by rw [p2, p3, p4]) h p2.symm
  rw [this, p1]
/-- what is cut off isn't read -/
theorem rd_cut {x : Sp} (h : Can x) {k : Nat} (hk : k < (recL (bodyL x)).length) : RD ((recL (bodyL x)).take k) = (Sp.zero, 0, 17) := by
  obtain ⟨b1, b2⟩ := body_len h
  rw [rec_len] at hk
  have hl : ((recL (bodyL x)).take k).length = k := by rw [List.length_take, rec_len]; omega
  by_cases c : k < 6
  · exact rd_few (by omega)
  · have e : len2 ((recL (bodyL x)).take k) = (bodyL x).length := by
      obtain ⟨p1, _, p3, _, _⟩ := parts (n := (bodyL x).length) (by omega) (s := le 4 (mor 0 (be 2 ((bodyL x).length : Int) ++ bodyL x))) (q := bodyL x) (t := []) (le_len _ _) rfl
      rw [List.append_nil] at p1 p3
      unfold len2 at p1 ⊢
      rw [List.take_take, Nat.min_eq_left (by omega)]
      exact p1
    exact rd_short (by omega) (by omega) (by omega)

/-! ### records one behind the other -/
inductive Reads : List Nat → List Sp → Nat → Prop
  | stop {l : List Nat} (h : (RD l).2.2 ≠ 0) : Reads l [] 0
  | more {l : List Nat} {xs : List Sp} {m : Nat} (h : (RD l).2.2 = 0) (r : Reads (l.drop (RD l).2.1.toNat) xs m) : Reads l ((RD l).1 :: xs) ((RD l).2.1.toNat + m)
theorem reads_one {l : List Nat} {xs ys : List Sp} {m n : Nat} (h : Reads l xs m) : Reads l ys n → xs = ys ∧ m = n := by
  induction h generalizing ys n with
  | stop h =>
    intro r
    cases r with
    | stop h' => exact ⟨rfl, rfl⟩
    | more h' r' => exact absurd h' h
  | more h r ih =>
    intro q
    cases q with
    | stop h' => exact absurd h h'
    | more h' r' =>
      obtain ⟨rfl, rfl⟩ := ih r'
      exact ⟨rfl, rfl⟩
def recs (xs : List Sp) : List Nat := (xs.map fun x => recL (bodyL x)).flatten
theorem recs_cons (x : Sp) (xs : List Sp) : recs (x :: xs) = recL (bodyL x) ++ recs xs := rfl
theorem recs_append (a b : List Sp) : recs (a ++ b) = recs a ++ recs b := by simp [recs]
theorem recs_one (x : Sp) : recs [x] = recL (bodyL x) := by simp [recs]
theorem recs_lt : ∀ {xs : List Sp}, (∀ x ∈ xs, Can x) → ∀ y ∈ recs xs, y < 256
  | [], _, y, hy => by simp [recs] at hy
  | x :: xs, h, y, hy => by
    rw [recs_cons] at hy
    rcases List.mem_append.1 hy with c | c
    · exact rec_lt (body_lt (h x (by simp)).dig) y c
    · exact recs_lt (fun z hz => h z (by simp [hz])) y c
theorem recs_len_le : ∀ {xs : List Sp}, (∀ x ∈ xs, Can x) → (recs xs).length ≤ 414 * xs.length
  | [], _ => by simp [recs]
  | x :: xs, h => by
    have h1 := recs_len_le (xs := xs) fun z hz => h z (by simp [hz])
    have h2 := (body_len (h x (by simp))).2
    rw [recs_cons, List.length_append, rec_len, List.length_cons]
    omega
theorem reads_recs : ∀ {xs : List Sp} {t : List Nat}, (∀ x ∈ xs, Can x) → (RD t).2.2 ≠ 0 → Reads (recs xs ++ t) xs (recs xs).length
  | [], t, _, ht => .stop ht
  | x :: xs, t, h, ht => by
    have hx := rd_rec (h x (by simp)) (recs xs ++ t)
    have e : recs (x :: xs) ++ t = recL (bodyL x) ++ (recs xs ++ t) := by rw [recs_cons, List.append_assoc]
    have r := reads_recs (xs := xs) (t := t) (fun z hz => h z (by simp [hz])) ht
    have hm := Reads.more (l := recL (bodyL x) ++ (recs xs ++ t)) (xs := xs) (m := (recs xs).length) (by rw [hx]) (by
      rw [hx, Int.toNat_natCast, List.drop_left]
      exact r)
    rw [hx] at hm
    rw [e, recs_cons, List.length_append]
    exact hm
theorem reads_all {xs : List Sp} (h : ∀ x ∈ xs, Can x) : Reads (recs xs) xs (recs xs).length := by
  have := reads_recs (t := []) h (by rw [rd_few (by simp)]; decide)
  rwa [List.append_nil] at this
end Go.Proofs.YtdmgobffhpgjlaaGreat.Sl
end
