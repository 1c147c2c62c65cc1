/-
  Heads that are written, plainly: what is written of a start line and fields, or why nothing is; that it is read as it was.
-/
import Derived.Test.YtdldoklkenhopaaDoorInText
namespace Go.Proofs.YtdldoklkenhopaaDoor.Ou
open Go.RowKit Go.PlainAid
open Hx Fi Ch In
set_option linter.unusedVariables false
set_option maxRecDepth 20000
set_option linter.unusedSimpArgs false

/-! ### a request line that is typed out -/
/-- HTTP/1.1 -/
def vL : List UInt8 := [72, 84, 84, 80, 47, 49, 46, 49]
def askL (m t : List UInt8) : List UInt8 := m ++ 32 :: (t ++ 32 :: vL)
theorem vis_free {t : List UInt8} (h : t.all visB = true) (b : UInt8) (hb : b ≤ 32) : b ∉ t := by
  intro hm
  have := List.all_eq_true.1 h b hm
  unfold visB at this
  have h33 := (of_decide_eq_true this).1
  have h2 : (33 : UInt8).toNat ≤ b.toNat := UInt8.le_iff_toNat_le.1 h33
  have h3 : b.toNat ≤ (32 : UInt8).toNat := UInt8.le_iff_toNat_le.1 hb
  have e33 : (33 : UInt8).toNat = 33 := rfl
  have e32 : (32 : UInt8).toNat = 32 := rfl
  omega
theorem lnQ_ok {l : List UInt8} {p : List UInt8 × List UInt8 × Nat} (h : lnQ l = .ok p) : ∃ v, l = p.1 ++ 32 :: (p.2.1 ++ 32 :: v) ∧ (32 : UInt8) ∉ p.1 ∧ (32 : UInt8) ∉ p.2.1 ∧ isTok p.1 = true ∧ p.2.1 ≠ [] ∧ p.2.1.all visB = true ∧ v.length = 8 ∧ ∃ x y, verF v = some (x, y) ∧ p.2.2 = y.toNat - 48 := by
  unfold lnQ at h
  split at h
  · cases h
  · rename_i m r h1
    split at h
    · rename_i hm
      split at h
      · cases h
      · rename_i t v h2
        split at h
        · rename_i ht
          split at h
          · cases h
          · rename_i x y hv
            split at h
            · injection h with h
              subst h
              obtain ⟨e1, n1⟩ := cutB_some h1
              obtain ⟨e2, n2⟩ := cutB_some h2
              refine ⟨v, by rw [e1, e2], n1, n2, hm, ht.1, ht.2, ?_, x, y, hv, rfl⟩
              unfold verF at hv
              split at hv
              · rename_i hc; exact hc.1
              · cases hv
            · cases h
        · cases h
    · cases h
theorem lnQ_ask {m t : List UInt8} {p : List UInt8 × List UInt8 × Nat} (h : lnQ (askL m t) = .ok p) : p = (m, t, 1) ∧ isTok m = true ∧ t ≠ [] ∧ t.all visB = true := by
  obtain ⟨v, e, n1, n2, h1, h2, h3, h8, x, y, hv, hy⟩ := lnQ_ok h
  obtain ⟨a, b, k⟩ := p
  simp only at e n1 n2 h1 h2 h3 hy
  have e1 : (m ++ 32 :: t) ++ 32 :: vL = (a ++ 32 :: b) ++ 32 :: v := by
    have : askL m t = (m ++ 32 :: t) ++ 32 :: vL := by unfold askL; simp
    rw [← this, e]; simp
  obtain ⟨e2, e3⟩ := List.append_inj' e1 (by simp only [List.length_cons, h8]; rfl)
  injection e3 with _ e3
  have nm : (32 : UInt8) ∉ m := by
    have hc := congrArg (List.count (32 : UInt8)) e2
    rw [List.count_append, List.count_append, List.count_cons_self, List.count_cons_self, List.count_eq_zero.2 n1, List.count_eq_zero.2 n2] at hc
    exact List.count_eq_zero.1 (by omega)
  have c1 := cutB_of (b := 32) (x := m) (y := t) nm
  have c2 := cutB_of (b := 32) (x := a) (y := b) n1
  rw [e2, c2] at c1
  injection c1 with c1
  injection c1 with c1 c3
  subst c1 c3 e3
  have hv1 : verF vL = some (49, 49) := by decide +kernel
  rw [hv1] at hv
  injection hv with hv
  injection hv with _ hv
  subst hv
  exact ⟨by rw [hy]; rfl, h1, h2, h3⟩
theorem askL_len (m t : List UInt8) : (askL m t).length = m.length + t.length + 10 := by unfold askL; simp [vL]; omega
theorem askL_free {m t : List UInt8} (hm : isTok m = true) (ht : t.all visB = true) (b : UInt8) (hb : b < 32) (hk : tokB b = false) : b ∉ askL m t := by
  have hb2 : b.toNat < 32 := by simpa using UInt8.lt_iff_toNat_lt.1 hb
  have ne : ∀ c : UInt8, 32 ≤ c.toNat → ¬ b = c := by
    intro c hc e
    rw [e] at hb2; omega
  unfold askL vL
  simp only [List.mem_append, List.mem_cons, List.not_mem_nil, or_false, not_or]
  exact ⟨tok_free hm hk, ne 32 (by decide), vis_free ht b (UInt8.le_iff_toNat_le.2 (by show b.toNat ≤ 32; omega)), ne 32 (by decide), ne 72 (by decide), ne 84 (by decide), ne 84 (by decide), ne 80 (by decide), ne 47 (by decide), ne 49 (by decide), ne 46 (by decide), ne 49 (by decide)⟩

/-! ### a status line that is typed out -/
def reaB (n : Int) : ByteArray :=
  if n = 200 then ⟨#[79, 75]⟩
  else if n = 206 then ⟨#[80, 97, 114, 116, 105, 97, 108, 32, 67, 111, 110, 116, 101, 110, 116]⟩
  else if n = 304 then ⟨#[78, 111, 116, 32, 77, 111, 100, 105, 102, 105, 101, 100]⟩
  else if n = 400 then ⟨#[66, 97, 100, 32, 82, 101, 113, 117, 101, 115, 116]⟩
  else if n = 404 then ⟨#[78, 111, 116, 32, 70, 111, 117, 110, 100]⟩
  else if n = 405 then ⟨#[77, 101, 116, 104, 111, 100, 32, 78, 111, 116, 32, 65, 108, 108, 111, 119, 101, 100]⟩
  else if n = 406 then ⟨#[78, 111, 116, 32, 65, 99, 99, 101, 112, 116, 97, 98, 108, 101]⟩
  else if n = 413 then ⟨#[67, 111, 110, 116, 101, 110, 116, 32, 84, 111, 111, 32, 76, 97, 114, 103, 101]⟩
  else if n = 416 then ⟨#[82, 97, 110, 103, 101, 32, 78, 111, 116, 32, 83, 97, 116, 105, 115, 102, 105, 97, 98, 108, 101]⟩
  else if n = 431 then ⟨#[82, 101, 113, 117, 101, 115, 116, 32, 72, 101, 97, 100, 101, 114, 32, 70, 105, 101, 108, 100, 115, 32, 84, 111, 111, 32, 76, 97, 114, 103, 101]⟩
  else if n = 502 then ⟨#[66, 97, 100, 32, 71, 97, 116, 101, 119, 97, 121]⟩
  else if n = 503 then ⟨#[83, 101, 114, 118, 105, 99, 101, 32, 85, 110, 97, 118, 97, 105, 108, 97, 98, 108, 101]⟩
  else if n = 504 then ⟨#[71, 97, 116, 101, 119, 97, 121, 32, 84, 105, 109, 101, 111, 117, 116]⟩
  else if n = 505 then ⟨#[72, 84, 84, 80, 32, 86, 101, 114, 115, 105, 111, 110, 32, 78, 111, 116, 32, 83, 117, 112, 112, 111, 114, 116, 101, 100]⟩
  else ⟨#[85, 110, 107, 110, 111, 119, 110]⟩
def noB (l : List UInt8) : Bool := !(l.contains 13) && !(l.contains 10)
theorem noB_free {l : List UInt8} (h : noB l = true) : (13 : UInt8) ∉ l ∧ (10 : UInt8) ∉ l := by
  unfold noB at h
  rw [Bool.and_eq_true, Bool.not_eq_true', Bool.not_eq_true'] at h
  refine ⟨fun x => ?_, fun x => ?_⟩
  · have := List.contains_iff_mem.2 x; rw [h.1] at this; cases this
  · have := List.contains_iff_mem.2 x; rw [h.2] at this; cases this
def okR (b : ByteArray) : Bool := decide (b.size ≤ 31) && noB (ls b)
theorem okR_ite {c : Prop} [Decidable c] {a b : ByteArray} (ha : okR a = true) (hb : okR b = true) : okR (if c then a else b) = true := by
  split
  · exact ha
  · exact hb
theorem reaB_ok (n : Int) : okR (reaB n) = true := by
  unfold reaB
  repeat' first | apply okR_ite | decide +kernel
theorem reaB_size (n : Int) : (reaB n).size ≤ 31 := by
  have := reaB_ok n
  unfold okR at this
  rw [Bool.and_eq_true] at this
  exact of_decide_eq_true this.1
theorem reaB_free (n : Int) : noB (ls (reaB n)) = true := by
  have := reaB_ok n
  unfold okR at this
  rw [Bool.and_eq_true] at this
  exact this.2
def ansL (n : Nat) : List UInt8 := vL ++ 32 :: (digL 8 n ++ 32 :: ls (reaB n))
theorem dig3_free : ∀ i : Fin 500, (noB (decD (100 + i.val)) && decide ((decD (100 + i.val)).length = 3)) = true := by decide +kernel
theorem dig3 {n : Nat} (h1 : 100 ≤ n) (h2 : n ≤ 599) : noB (digL 8 n) = true ∧ (digL 8 n).length = 3 := by
  have := dig3_free ⟨n - 100, by omega⟩
  simp only [show 100 + (n - 100) = n by omega, Bool.and_eq_true, decide_eq_true_eq] at this
  rw [decD_is (by omega)]
  exact this
theorem ansL_len {n : Nat} (h1 : 100 ≤ n) (h2 : n ≤ 599) : (ansL n).length = (reaB n).size + 13 := by
  unfold ansL
  have := (dig3 h1 h2).2
  simp only [List.length_append, List.length_cons, this, ls_len]
  show 8 + _ = _
  omega
theorem ansL_free {n : Nat} (h1 : 100 ≤ n) (h2 : n ≤ 599) : (13 : UInt8) ∉ ansL n ∧ (10 : UInt8) ∉ ansL n := by
  obtain ⟨d1, d2⟩ := noB_free (dig3 h1 h2).1
  obtain ⟨r1, r2⟩ := noB_free (reaB_free n)
  unfold ansL vL
  simp only [List.mem_append, List.mem_cons, List.not_mem_nil, or_false, not_or]
  exact ⟨⟨by decide, by decide, d1, by decide, r1⟩, ⟨by decide, by decide, d2, by decide, r2⟩⟩

/-! ### heads -/
def layE (st : List UInt8) (xs : List Fi.Fd) : Int := if 32 < xs.length then 1 else if xs.all goodF = true then (if 4096 < (headF st xs).length then 4 else 0) else 1
def layS (st : List UInt8) (xs : List Fi.Fd) : ByteArray := if layE st xs = 0 then tx (headF st xs) else ⟨#[]⟩
theorem lay_ok {st : List UInt8} {xs : List Fi.Fd} (h : layE st xs = 0) : xs.length ≤ 32 ∧ (∀ f ∈ xs, Fi.Good f) ∧ (headF st xs).length ≤ 4096 ∧ layS st xs = tx (headF st xs) := by
  have hs : layS st xs = tx (headF st xs) := if_pos h
  unfold layE at h
  split at h
  · cases h
  · split at h
    · split at h
      · cases h
      · rename_i a b c
        exact ⟨by omega, fun f hf => (good_iff f).1 (List.all_eq_true.1 b f hf), by omega, hs⟩
    · cases h
theorem lay_many {st : List UInt8} {xs : List Fi.Fd} (h : 32 < xs.length) : layE st xs = 1 ∧ layS st xs = ⟨#[]⟩ := by
  have e : layE st xs = 1 := if_pos h
  exact ⟨e, by unfold layS; rw [e]; rfl⟩
theorem lay_form {st : List UInt8} {xs : List Fi.Fd} {f : Fi.Fd} (hf : f ∈ xs) (h : goodF f = false) : layE st xs = 1 ∧ layS st xs = ⟨#[]⟩ := by
  have hb : ¬ (xs.all goodF = true) := fun x => by
    have := List.all_eq_true.1 x f hf
    rw [h] at this; cases this
  have e : layE st xs = 1 := by
    unfold layE
    split
    · rfl
    · rfl
  exact ⟨e, by unfold layS; rw [e]; rfl⟩
theorem lay_long {st : List UInt8} {xs : List Fi.Fd} (h : xs.length ≤ 32) (hg : ∀ f ∈ xs, goodF f = true) (hl : 4096 < (headF st xs).length) : layE st xs = 4 ∧ layS st xs = ⟨#[]⟩ := by
  have e : layE st xs = 4 := by
    unfold layE
    rw [if_neg (by omega), if_pos (List.all_eq_true.2 hg), if_pos hl]
  exact ⟨e, by unfold layS; rw [e]; rfl⟩
theorem lay_good {st : List UInt8} {xs : List Fi.Fd} (h : xs.length ≤ 32) (hg : ∀ f ∈ xs, goodF f = true) (hl : (headF st xs).length ≤ 4096) : layE st xs = 0 ∧ layS st xs = tx (headF st xs) := by
  have e : layE st xs = 0 := by
    unfold layE
    rw [if_neg (by omega), if_pos (List.all_eq_true.2 hg), if_neg (by omega)]
  exact ⟨e, if_pos e⟩
/-- how long a head is -/
def sumF : List Fi.Fd → Nat
  | [] => 0
  | f :: l => f.n.size + f.v.size + 4 + sumF l
theorem sumF_append : ∀ (a b : List Fi.Fd), sumF (a ++ b) = sumF a + sumF b
  | [], b => by simp [sumF]
  | f :: a, b => by simp only [List.cons_append, sumF, sumF_append a b]; omega
theorem lines_sum : ∀ xs : List Fi.Fd, (linesF xs).length = sumF xs
  | [] => rfl
  | f :: l => by
    simp only [linesF, sumF, List.length_append, List.length_cons, lines_sum l, printF, List.length_nil, ls_len]
    omega
theorem head_sum (st : List UInt8) (xs : List Fi.Fd) : (headF st xs).length = st.length + 4 + sumF xs := by
  unfold headF
  simp only [List.length_append, List.length_cons, List.length_nil, lines_sum]
  omega
theorem sum_take {xs : List Fi.Fd} {k : Nat} {x : Fi.Fd} (h : xs[k]? = some x) : sumF (xs.take (k + 1)) = sumF (xs.take k) + (x.n.size + x.v.size + 4) := by
  rw [List.take_add_one, h]
  show sumF (xs.take k ++ [x]) = _
  rw [sumF_append]
  simp [sumF]
theorem lines_take {xs : List Fi.Fd} {k : Nat} {x : Fi.Fd} (h : xs[k]? = some x) : linesF (xs.take (k + 1)) = linesF (xs.take k) ++ (printF x ++ [13, 10]) := by
  rw [List.take_add_one, h]
  show linesF (xs.take k ++ [x]) = _
  rw [linesF_append]
  simp [linesF]
theorem sum_take_le (xs : List Fi.Fd) (k : Nat) : sumF (xs.take k) ≤ sumF xs := by
  have := sumF_append (xs.take k) (xs.drop k)
  rw [List.take_append_drop] at this
  omega
/-- what was written is read as it was, whatever stands behind it -/
theorem lay_back {st : List UInt8} {xs : List Fi.Fd} (h : layE st xs = 0) (h0 : st ≠ []) (h1 : st.length ≤ 1024) (h3 : (13 : UInt8) ∉ st) (h4 : (10 : UInt8) ∉ st) (r : List UInt8) : spl (headF st xs ++ r) = ⟨0, st, xs, (headF st xs).length⟩ := by
  obtain ⟨a, b, c, _⟩ := lay_ok h
  have hs := spl_head st xs h0 h1 h3 h4 b a c
  rw [spl_more _ _ (by rw [hs]; show (0 : Int) ≠ 17; decide), hs]

/-! ### answers and asks -/
def ansE (n : Int) (xs : List Fi.Fd) : Int := if n < 100 ∨ 599 < n then 1 else layE (ansL n.toNat) xs
def ansS (n : Int) (xs : List Fi.Fd) : ByteArray := if ansE n xs = 0 then tx (headF (ansL n.toNat) xs) else ⟨#[]⟩
theorem ans_out {n : Int} {xs : List Fi.Fd} (h : n < 100 ∨ 599 < n) : ansE n xs = 1 ∧ ansS n xs = ⟨#[]⟩ := by
  have e : ansE n xs = 1 := if_pos h
  exact ⟨e, by unfold ansS; rw [e]; rfl⟩
theorem ans_in {n : Int} {xs : List Fi.Fd} (h : ¬ (n < 100 ∨ 599 < n)) : ansE n xs = layE (ansL n.toNat) xs ∧ ansS n xs = layS (ansL n.toNat) xs := by
  have e : ansE n xs = layE (ansL n.toNat) xs := if_neg h
  refine ⟨e, ?_⟩
  unfold ansS layS
  rw [e]
theorem ans_ok {n : Int} {xs : List Fi.Fd} (h : ansE n xs = 0) : 100 ≤ n ∧ n ≤ 599 ∧ layE (ansL n.toNat) xs = 0 := by
  by_cases c : n < 100 ∨ 599 < n
  · rw [(ans_out c).1] at h; cases h
  · rw [(ans_in c).1] at h
    exact ⟨by omega, by omega, h⟩
def askO (m t : List UInt8) : Bool := (match lnQ (askL m t) with | .ok _ => true | .error _ => false) && decide ((askL m t).length ≤ 1024)
def askE (m t : List UInt8) (xs : List Fi.Fd) : Int := if askO m t = true then layE (askL m t) xs else 1
def askS (m t : List UInt8) (xs : List Fi.Fd) : ByteArray := if askE m t xs = 0 then tx (headF (askL m t) xs) else ⟨#[]⟩
theorem ask_out {m t : List UInt8} {xs : List Fi.Fd} (h : askO m t = false) : askE m t xs = 1 ∧ askS m t xs = ⟨#[]⟩ := by
  have e : askE m t xs = 1 := if_neg (by rw [h]; decide)
  exact ⟨e, by unfold askS; rw [e]; rfl⟩
theorem ask_in {m t : List UInt8} {xs : List Fi.Fd} (h : askO m t = true) : askE m t xs = layE (askL m t) xs ∧ askS m t xs = layS (askL m t) xs := by
  have e : askE m t xs = layE (askL m t) xs := if_pos h
  refine ⟨e, ?_⟩
  unfold askS layS
  rw [e]
theorem askO_bad {m t : List UInt8} {st : Int} (h : lnQ (askL m t) = .error st) : askO m t = false := by unfold askO; rw [h]; rfl
theorem askO_long {m t : List UInt8} (h : 1024 < m.length + t.length + 10) : askO m t = false := by
  unfold askO
  rw [askL_len, Bool.and_eq_false_iff]
  exact .inr (decide_eq_false (by omega))
theorem askO_ok {m t : List UInt8} {p : List UInt8 × List UInt8 × Nat} (h : lnQ (askL m t) = .ok p) (hl : m.length + t.length + 10 ≤ 1024) : askO m t = true := by
  unfold askO
  rw [h, askL_len, Bool.true_and]
  exact decide_eq_true hl
theorem askO_is {m t : List UInt8} (h : askO m t = true) : lnQ (askL m t) = .ok (m, t, 1) ∧ isTok m = true ∧ t ≠ [] ∧ t.all visB = true ∧ (askL m t).length ≤ 1024 := by
  unfold askO at h
  rw [Bool.and_eq_true, decide_eq_true_eq] at h
  obtain ⟨h1, h2⟩ := h
  cases hq : lnQ (askL m t) with
  | error st => rw [hq] at h1; cases h1
  | ok p =>
    obtain ⟨rfl, a, b, c⟩ := lnQ_ask hq
    exact ⟨rfl, a, b, c, h2⟩
theorem ask_ok {m t : List UInt8} {xs : List Fi.Fd} (h : askE m t xs = 0) : askO m t = true ∧ layE (askL m t) xs = 0 := by
  by_cases c : askO m t = true
  · exact ⟨c, by rw [← (ask_in c).1]; exact h⟩
  · rw [(ask_out (by simpa using c)).1] at h; cases h
theorem askL_ne (m t : List UInt8) : askL m t ≠ [] := by unfold askL; simp
theorem ansL_ne (n : Nat) : ansL n ≠ [] := by unfold ansL vL; simp
theorem ans_back {n : Int} {xs : List Fi.Fd} (h : ansE n xs = 0) (r : List UInt8) : spl (headF (ansL n.toNat) xs ++ r) = ⟨0, ansL n.toNat, xs, (headF (ansL n.toNat) xs).length⟩ := by
  obtain ⟨a, b, c⟩ := ans_ok h
  have hl := ansL_len (n := n.toNat) (by omega) (by omega)
  have hf := ansL_free (n := n.toNat) (by omega) (by omega)
  have := reaB_size (n.toNat : Int)
  exact lay_back c (ansL_ne _) (by omega) hf.1 hf.2 r
theorem ask_back {m t : List UInt8} {xs : List Fi.Fd} (h : askE m t xs = 0) (r : List UInt8) : spl (headF (askL m t) xs ++ r) = ⟨0, askL m t, xs, (headF (askL m t) xs).length⟩ := by
  obtain ⟨a, c⟩ := ask_ok h
  obtain ⟨_, hm, _, ht, hl⟩ := askO_is a
  exact lay_back c (askL_ne _ _) hl (askL_free hm ht 13 (by decide) (by decide)) (askL_free hm ht 10 (by decide) (by decide)) r
/-! ### a request that is written is heard -/
theorem frF_none {xs : List Fi.Fd} (h1 : getN (ls nTE) xs = 0) (h2 : getN (ls nCL) xs = 0) : frF xs 4096 = ⟨-1, false, 0⟩ := by
  unfold frF
  rw [h1, h2, if_pos ⟨rfl, rfl⟩]
noncomputable def askQ (m t : List UInt8) (xs : List Fi.Fd) : Rq := ⟨m, t, xs, closesF xs 1⟩
theorem rd_ask {m t : List UInt8} {xs : List Fi.Fd} (h : askE m t xs = 0) (hh : getN (ls nHost) xs = 1) (h1 : getN (ls nTE) xs = 0) (h2 : getN (ls nCL) xs = 0) : rdF (headF (askL m t) xs) = .ok (askQ m t xs) (headF (askL m t) xs).length := by
  have hs := ask_back h []
  rw [List.append_nil] at hs
  obtain ⟨a, c⟩ := ask_ok h
  have hq : headQ ⟨0, askL m t, xs, (headF (askL m t) xs).length⟩ = .ok (askQ m t xs, ⟨-1, false, 0⟩) := by
    unfold headQ
    rw [(askO_is a).1]
    simp only
    rw [hh, frF_none h1 h2, if_neg (by omega)]
    simp only
    rw [if_neg (by omega), if_neg (by omega)]
    rfl
  rw [rd_sized (q := askQ m t xs) (f := ⟨-1, false, 0⟩) (by rw [hs]) (by rw [hs]; exact hq) (by simp), hs]
  simp only
  rw [if_neg (by show ¬ _ < _ + 0; omega)]
  congr 1
theorem rd_nil : rdF [] = .more := rd_short (by decide +kernel)
end Go.Proofs.YtdldoklkenhopaaDoor.Ou
