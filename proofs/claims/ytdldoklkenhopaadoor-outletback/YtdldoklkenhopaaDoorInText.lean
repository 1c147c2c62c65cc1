/-
  Requests typed out, plainly: one with a length is read as it was written; one that may be read in two ways is wrong.
-/
import Derived.Test.YtdldoklkenhopaaDoorInMath
import Derived.Test.YtdldoklkenhopaaDoorHxCount
namespace Go.Proofs.YtdldoklkenhopaaDoor.In
open Go.RowKit Go.PlainAid
open Hx Fi Ch
set_option linter.unusedVariables false
set_option maxRecDepth 20000
set_option linter.unusedSimpArgs false

/-- GET, a target, HTTP/1.1 -/
def getL (t : List UInt8) : List UInt8 := [71, 69, 84] ++ 32 :: (t ++ 32 :: [72, 84, 84, 80, 47, 49, 46, 49])
theorem verF_len {v : List UInt8} (h : v.length ≠ 8) : verF v = none := by unfold verF; rw [if_neg (fun x => h x.1)]
theorem lnQ_get {t : List UInt8} {p : List UInt8 × List UInt8 × Nat} (h : lnQ (getL t) = .ok p) : p = ([71, 69, 84], t, 1) ∧ t ≠ [] ∧ t.all visB = true := by
  unfold lnQ getL at h
  rw [cutB_of (by decide)] at h
  simp only at h
  rw [if_pos (show isTok [71, 69, 84] = true by decide +kernel)] at h
  by_cases h32 : (32 : UInt8) ∈ t
  · cases hq : cutB 32 (t ++ 32 :: [72, 84, 84, 80, 47, 49, 46, 49]) with
    | none => rw [hq] at h; cases h
    | some x =>
      obtain ⟨a, b⟩ := x
      rw [hq] at h
      simp only at h
      obtain ⟨e1, e2⟩ := cutB_some hq
      have hb : b.length ≠ 8 := by
        intro hb
        have hl := congrArg List.length e1
        simp only [List.length_append, List.length_cons, List.length_nil] at hl
        have ht : t = a := by
          have h1 := congrArg (List.take t.length) e1
          rw [List.take_left, show t.length = a.length by omega, List.take_left] at h1
          exact h1
        rw [ht] at h32
        exact e2 h32
      split at h
      · rw [verF_len hb] at h; cases h
      · cases h
  · rw [cutB_of h32] at h
    simp only at h
    split at h
    · rename_i ht
      rw [show verF [72, 84, 84, 80, 47, 49, 46, 49] = some (49, 49) by decide +kernel] at h
      simp only at h
      rw [if_pos (by decide)] at h
      injection h with h
      exact ⟨h.symm, ht⟩
    · cases h
theorem getL_free {t : List UInt8} (h : t.all visB = true) (b : UInt8) (hb : b < 32) : b ∉ getL t := by
  unfold getL
  simp only [List.mem_append, List.mem_cons, List.not_mem_nil, or_false, not_or]
  have hb2 : b.toNat < 32 := by simpa using UInt8.lt_iff_toNat_lt.1 hb
  have ne : ∀ c : UInt8, 32 ≤ c.toNat → ¬ b = c := by
    intro c hc e
    rw [e] at hb2; omega
  refine ⟨⟨ne 71 (by decide), ne 69 (by decide), ne 84 (by decide)⟩, ne 32 (by decide), fun hm => ?_, ne 32 (by decide), ne 72 (by decide), ne 84 (by decide), ne 84 (by decide), ne 80 (by decide), ne 47 (by decide), ne 49 (by decide), ne 46 (by decide), ne 49 (by decide)⟩
  have := List.all_eq_true.1 h b hm
  unfold visB at this
  have h33 := (of_decide_eq_true this).1
  have : (33 : UInt8).toNat ≤ b.toNat := UInt8.le_iff_toNat_le.1 h33
  have e33 : (33 : UInt8).toNat = 33 := rfl
  omega
/-! ### numbers in decimal, below 1000 -/
def decD (n : Nat) : List UInt8 := if n < 10 then [hd n] else if n < 100 then [hd (n / 10), hd (n % 10)] else [hd (n / 100), hd (n / 10 % 10), hd (n % 10)]
theorem decD_is {n : Nat} (h : n < 1000) : digL 8 n = decD n := by
  unfold decD
  by_cases h1 : n < 10
  · rw [if_pos h1, digL_small 8 n h1]
  · rw [if_neg h1, digL_great 8 n h1]
    by_cases h2 : n < 100
    · rw [if_pos h2, digL_small 8 _ (by show n / 10 < 10; omega)]; rfl
    · rw [if_neg h2, digL_great 8 _ (by show ¬ n / 10 < 10; omega), digL_small 8 _ (by show n / 10 / 10 < 10; omega)]
      show [hd (n / 10 / 10)] ++ [hd (n / 10 % 10)] ++ [hd (n % 10)] = _
      rw [show n / 10 / 10 = n / 100 by omega]; rfl
theorem decD_good : ∀ n : Fin 101, (isTxt (decD n.val) && (trimT (decD n.val) == decD n.val)) = true := by decide +kernel
/-! ### fields -/
def fHost : Fi.Fd := ⟨nHost, ⟨#[104]⟩⟩
def fLen (n : Nat) : Fi.Fd := ⟨nCL, tx (digL 8 n)⟩
theorem fHost_good : Fi.Good fHost := (good_iff _).1 (by decide +kernel)
theorem fLen_good {n : Nat} (h : n ≤ 100) : Fi.Good (fLen n) := by
  have hd := decD_good ⟨n, by omega⟩
  simp only [Bool.and_eq_true, beq_iff_eq] at hd
  refine ⟨by show isTok (ls nCL) = true; decide +kernel, ?_, ?_⟩
  · show isTxt (ls (tx (digL 8 n))) = true
    rw [ls_tx, decD_is (by omega)]; exact hd.1
  · show trimT (ls (tx (digL 8 n))) = ls (tx (digL 8 n))
    rw [ls_tx, decD_is (by omega)]; exact hd.2
theorem getN_append (nm : List UInt8) (a b : List Fi.Fd) : getN nm (a ++ b) = getN nm a + getN nm b := by
  unfold getN valsF
  rw [List.filter_append, List.map_append, List.length_append]
theorem getN_zero {nm : List UInt8} {a : List Fi.Fd} (h : ∀ x ∈ a, getN nm [x] = 0) : getN nm a = 0 := by
  induction a with
  | nil => rfl
  | cons x a ih =>
    have e : x :: a = [x] ++ a := rfl
    rw [e, getN_append, h x (by simp), ih fun y hy => h y (by simp [hy])]
theorem len_frame {n : Nat} (h : n ≤ 100) : frF [fHost, fLen n] 4096 = ⟨(n : Int), false, 0⟩ := by
  have e0 : sameL (ls nHost) (ls nTE) = false := by decide +kernel
  have e1 : sameL (ls nCL) (ls nTE) = false := by decide +kernel
  have e2 : sameL (ls nHost) (ls nCL) = false := by decide +kernel
  have e3 : sameL (ls nCL) (ls nCL) = true := by decide +kernel
  have v1 : valsF (ls nTE) [fHost, fLen n] = [] := by simp [valsF, fHost, fLen, e0, e1]
  have v2 : valsF (ls nCL) [fHost, fLen n] = [tx (digL 8 n)] := by simp [valsF, fHost, fLen, e2, e3]
  have hf : DecForm (tx (digL 8 n)) := dec_form n
  have hv : decTo (tx (digL 8 n)) (tx (digL 8 n)).size = n := by rw [tx_size]; exact dec_val n
  have hs : (tx (digL 8 n)).size ≤ 19 := by rw [tx_size]; exact dec_len n (by omega)
  have hN : undN (tx (digL 8 n)) 4096 = n := by
    unfold undN amN
    rw [if_pos hf, if_pos hs, hv, if_pos ⟨by omega, by omega, by omega⟩]
  have hE : undE (tx (digL 8 n)) 4096 = 0 := by
    unfold undE amE
    rw [if_pos hf, if_pos hs, hv, if_pos ⟨by omega, by omega, by omega⟩]
  unfold frF getN getS
  rw [v1, v2]
  show (if 0 = 0 ∧ 1 = 0 then _ else if 1 < 0 + 1 then _ else if 1 = 1 then (⟨lenN (tx (digL 8 n)) 4096, false, lenE (tx (digL 8 n)) 4096⟩ : Fr) else _) = _
  rw [if_neg (by omega), if_neg (by omega), if_pos rfl]
  unfold lenN lenE
  rw [hE, hN, if_neg (by omega), if_neg (by omega)]
/-- a request with a body of a length -/
def pipeL (t body : List UInt8) : List UInt8 := headF (getL t) [fHost, fLen body.length] ++ body
noncomputable def pipeQ (t : List UInt8) (n : Nat) : Rq := ⟨[71, 69, 84], t, [fHost, fLen n], closesF [fHost, fLen n] 1⟩
theorem getL_len (t : List UInt8) : (getL t).length = t.length + 13 := by unfold getL; simp
theorem pipe_len {t body : List UInt8} (hb : body.length ≤ 100) : (headF (getL t) [fHost, fLen body.length]).length ≤ t.length + 50 := by
  have h3 : (digL 8 body.length).length ≤ 3 := by
    rw [decD_is (by omega)]
    unfold decD
    split
    · simp
    · split <;> simp
  unfold headF
  simp only [linesF, printF, fHost, fLen, List.length_append, List.length_cons, List.length_nil, getL_len, ls_len, tx_size]
  have e1 : nHost.size = 4 := rfl
  have e2 : nCL.size = 14 := rfl
  have e3 : (⟨#[104]⟩ : ByteArray).size = 1 := rfl
  rw [e1, e2, e3]
  omega
theorem rd_pipe {t body : List UInt8} (r : List UInt8) (h : ∃ p, lnQ (getL t) = .ok p) (ht : t.length ≤ 1000) (hb : body.length ≤ 100) : rdF (pipeL t body ++ r) = .ok (pipeQ t body.length) (pipeL t body).length := by
  obtain ⟨p, hp⟩ := h
  obtain ⟨rfl, hne, hv⟩ := lnQ_get hp
  have hl := pipe_len (t := t) hb
  have hs := spl_head (getL t) [fHost, fLen body.length] (by unfold getL; simp) (by rw [getL_len]; omega) (getL_free hv 13 (by decide)) (getL_free hv 10 (by decide)) (by
    intro f hf
    simp only [List.mem_cons, List.not_mem_nil, or_false] at hf
    rcases hf with rfl | rfl
    · exact fHost_good
    · exact fLen_good hb) (by simp) (by omega)
  have hs2 := spl_more (headF (getL t) [fHost, fLen body.length]) body (by rw [hs]; simp)
  rw [hs] at hs2
  have hq : headQ ⟨0, getL t, [fHost, fLen body.length], (headF (getL t) [fHost, fLen body.length]).length⟩ = .ok (pipeQ t body.length, ⟨(body.length : Int), false, 0⟩) := by
    unfold headQ
    rw [hp]
    simp only
    have hn : getN (ls nHost) [fHost, fLen body.length] = 1 := by
      have e0 : sameL (ls nHost) (ls nHost) = true := by decide +kernel
      have e1 : sameL (ls nCL) (ls nHost) = false := by decide +kernel
      unfold getN
      simp [valsF, fHost, fLen, e0, e1]
    rw [hn, len_frame hb, if_neg (by omega)]
    simp only
    rw [if_neg (by omega), if_neg (by omega)]
    rfl
  have h1 : rdF (pipeL t body) = .ok (pipeQ t body.length) (pipeL t body).length := by
    unfold pipeL
    rw [rd_sized (q := pipeQ t body.length) (f := ⟨(body.length : Int), false, 0⟩) (by rw [hs2]) (by rw [hs2]; exact hq) (by simp), hs2, List.length_append]
    simp only
    rw [if_neg (by omega)]
    congr 1
  rw [rd_stays _ r (by rw [h1]; intro e; cases e), h1]
/-- requests behind each other -/
def pipesL : List (List UInt8 × List UInt8) → List UInt8
  | [] => []
  | p :: l => pipeL p.1 p.2 ++ pipesL l
theorem pipesL_snoc : ∀ (l : List (List UInt8 × List UInt8)) (p : List UInt8 × List UInt8), pipesL (l ++ [p]) = pipesL l ++ pipeL p.1 p.2
  | [], p => by simp [pipesL]
  | q :: l, p => by simp [pipesL, pipesL_snoc l p]
theorem all_pipes : ∀ (l : List (List UInt8 × List UInt8)), (∀ p ∈ l, (∃ x, lnQ (getL p.1) = .ok x) ∧ p.1.length ≤ 1000 ∧ p.2.length ≤ 100) → allF (pipesL l) = ⟨l.map fun p => pipeQ p.1 p.2.length, 0, []⟩
  | [], _ => all_nil
  | p :: l, h => by
    obtain ⟨h1, h2, h3⟩ := h p (by simp)
    have hr := rd_pipe (pipesL l) h1 h2 h3
    have ih := all_pipes l fun q hq => h q (by simp [hq])
    show allF (pipeL p.1 p.2 ++ pipesL l) = _
    rw [all_ok hr, List.drop_left, ih]
    rfl
/-! ### what may be read in two ways -/
/-- GET / HTTP/1.1 -/
def rootL : List UInt8 := getL [47]
theorem rd_strict {xs ys : List Fi.Fd} (r : List UInt8) (hx : ∀ x ∈ xs, Fi.Good x ∧ getN (ls nHost) [x] = 0 ∧ getN (ls nCL) [x] = 0 ∧ getN (ls nTE) [x] = 0) (hy : ∀ y ∈ ys, Fi.Good y) (hl : (xs ++ ys).length ≤ 32) (hz : (headF rootL (xs ++ ys)).length ≤ 4096)
    (hb : getN (ls nHost) ys ≠ 1 ∨ (1 < getN (ls nTE) ys + getN (ls nCL) ys)) : rdF (headF rootL (xs ++ ys) ++ r) = .bad 400 := by
  have hln : lnQ rootL = .ok ([71, 69, 84], [47], 1) := by kernel_rfl
  have hs := spl_head rootL (xs ++ ys) (by decide) (by decide) (by decide) (by decide) (by
    intro f hf
    rcases List.mem_append.1 hf with h | h
    · exact (hx f h).1
    · exact hy f h) hl hz
  have hq : headQ ⟨0, rootL, xs ++ ys, (headF rootL (xs ++ ys)).length⟩ = .error 400 := by
    have n1 : getN (ls nHost) (xs ++ ys) = getN (ls nHost) ys := by rw [getN_append, getN_zero fun x h => (hx x h).2.1, Nat.zero_add]
    have n2 : getN (ls nCL) (xs ++ ys) = getN (ls nCL) ys := by rw [getN_append, getN_zero fun x h => (hx x h).2.2.1, Nat.zero_add]
    have n3 : getN (ls nTE) (xs ++ ys) = getN (ls nTE) ys := by rw [getN_append, getN_zero fun x h => (hx x h).2.2.2, Nat.zero_add]
    unfold headQ
    rw [hln]
    simp only
    rw [n1]
    by_cases h1 : getN (ls nHost) ys = 1
    · rw [if_neg (by omega)]
      have h2 : 1 < getN (ls nTE) ys + getN (ls nCL) ys := by
        rcases hb with h | h
        · exact absurd h1 h
        · exact h
      have hf : frF (xs ++ ys) 4096 = ⟨0, false, 3⟩ := by
        unfold frF
        rw [n2, n3, if_neg (by omega), if_pos h2]
      rw [hf]
      simp only
      rw [if_neg (by omega), if_pos (by omega)]
    · rw [if_pos (show 1 < getN (ls nHost) ys ∨ (getN (ls nHost) ys = 0 ∧ True) by simp only [and_true]; omega)]
  have h1 : rdF (headF rootL (xs ++ ys)) = .bad 400 := rd_bad (by rw [hs]) (by rw [hs]; exact hq)
  rw [rd_stays _ r (by rw [h1]; intro e; cases e), h1]
end Go.Proofs.YtdldoklkenhopaaDoor.In
