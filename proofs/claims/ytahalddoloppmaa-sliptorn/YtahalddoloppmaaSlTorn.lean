/-
  Records that are cut off, or in whose last body four bytes were turned: what is read of them. No program is spoken of.
-/
import Derived.Test.YtahalddoloppmaaSlAll
namespace Go.Proofs.Ytahalddoloppmaa.Sl
open Go.RowKit Go.PlainAid Go.Proofs.Ytahalddoloppmaa.Cr
set_option linter.unusedVariables false
set_option linter.unusedSimpArgs false

/-- where the first j records end -/
def En (xs : List Sp) (j : Nat) : Nat := (recs (xs.take j)).length
theorem En_zero (xs : List Sp) : En xs 0 = 0 := rfl
theorem En_all (xs : List Sp) : En xs xs.length = (recs xs).length := by unfold En; rw [List.take_of_length_le (Nat.le_refl _)]
theorem En_mono (xs : List Sp) {i j : Nat} (h : i ≤ j) : En xs i ≤ En xs j := by
  unfold En
  have e : xs.take j = xs.take i ++ (xs.take j).drop i := by
    have h1 := List.take_append_drop i (xs.take j)
    rw [List.take_take, Nat.min_eq_left h] at h1
    exact h1.symm
  rw [e, recs_append, List.length_append]
  omega
theorem En_succ {xs : List Sp} {j : Nat} {x : Sp} (h : xs[j]? = some x) : En xs (j + 1) = En xs j + (recL (bodyL x)).length := by
  unfold En
  rw [List.take_add_one, h, recs_append, List.length_append]
  simp [recs]
def endsL (xs : List Sp) : List Value := (List.range (xs.length + 1)).map fun j => Value.int .i64 (En xs j : Int)
theorem endsL_nil : endsL [] = [.int .i64 0] := rfl
theorem endsL_len (xs : List Sp) : (endsL xs).length = xs.length + 1 := by simp [endsL]
theorem endsL_snoc (xs : List Sp) (x : Sp) : endsL (xs ++ [x]) = endsL xs ++ [.int .i64 ((recs (xs ++ [x])).length : Int)] := by
  unfold endsL
  rw [List.length_append, List.length_singleton, List.range_succ, List.map_append]
  congr 1
  · apply List.map_congr_left
    intro j hj
    have hj := List.mem_range.1 hj
    unfold En
    rw [List.take_append_of_le_length (by omega)]
  · have := En_all (xs ++ [x])
    rw [List.length_append, List.length_singleton] at this
    simp [this]
theorem endsL_get (xs : List Sp) {j : Nat} (h : j ≤ xs.length) : (endsL xs)[j]? = some (.int .i64 (En xs j : Int)) := by
  unfold endsL
  rw [List.getElem?_map, List.getElem?_range (by omega)]
  rfl
theorem endsL_one (xs : List Sp) : ∀ v ∈ endsL xs, v.oneCell' = true := by
  intro v hv
  simp only [endsL, List.mem_map] at hv
  obtain ⟨j, _, rfl⟩ := hv
  rfl
theorem whole_ex (f : Nat → Nat) (k : Nat) (h0 : f 0 ≤ k) : ∀ m, ∃ j, j ≤ m ∧ f j ≤ k ∧ (j < m → k < f (j + 1))
  | 0 => ⟨0, Nat.le_refl _, h0, fun h => absurd h (by omega)⟩
  | m + 1 => by
    obtain ⟨j, h1, h2, h3⟩ := whole_ex f k h0 m
    by_cases c : j < m
    · exact ⟨j, by omega, h2, fun _ => h3 c⟩
    · obtain rfl : j = m := by omega
      by_cases d : f (j + 1) ≤ k
      · exact ⟨j + 1, Nat.le_refl _, d, fun h => absurd h (by omega)⟩
      · exact ⟨j, by omega, h2, fun _ => by omega⟩
theorem reads_cut {xs : List Sp} (hc : ∀ x ∈ xs, Can x) {j k : Nat} (hj : j ≤ xs.length) (h1 : En xs j ≤ k) (h2 : j < xs.length → k < En xs (j + 1)) (hk : k ≤ (recs xs).length) : Reads ((recs xs).take k) (xs.take j) (En xs j) := by
  by_cases c : j < xs.length
  · have h2 := h2 c
    obtain ⟨x, hx⟩ : ∃ x, xs[j]? = some x := ⟨xs[j], List.getElem?_eq_getElem c⟩
    rw [En_succ hx] at h2
    have e : recs xs = recs (xs.take j) ++ (recL (bodyL x) ++ recs (xs.drop (j + 1))) := by
      conv => lhs; rw [← List.take_append_drop j xs]
      rw [recs_append, List.drop_eq_getElem_cons c, recs_cons]
      rw [List.getElem?_eq_getElem c] at hx
      rw [Option.some.inj hx]
    have e2 : (recs xs).take k = recs (xs.take j) ++ (recL (bodyL x)).take (k - En xs j) := by
      rw [e, List.take_append, List.take_of_length_le (by exact h1)]
      congr 1
      rw [List.take_append_of_le_length]
      · rfl
      · unfold En at h1 h2; omega
    rw [e2]
    refine reads_recs (fun z hz => hc z (List.mem_of_mem_take hz)) ?_
    rw [rd_cut (hc x (List.mem_of_getElem? hx)) (by omega)]
    decide
  · obtain rfl : j = xs.length := by omega
    rw [En_all] at h1 ⊢
    rw [List.take_of_length_le h1, List.take_of_length_le (Nat.le_refl _)]
    exact reads_all hc
theorem burL_append (a b : List Nat) (t B k : Nat) : burL (a ++ b) (a.length + t) B k = a ++ burL b t B k := by
  refine List.ext_getElem (by simp [burL_len]) fun j h1 h2 => ?_
  have hj : j < (a ++ b).length := by rw [burL_len] at h1; exact h1
  rw [burL_get _ _ _ _ _ hj]
  by_cases c : j < a.length
  · rw [List.getElem_append_left c, List.getElem_append_left c]
    unfold dB
    rw [if_neg (by omega), Nat.xor_zero]
  · rw [List.length_append] at hj
    rw [List.getElem_append_right (by omega), List.getElem_append_right (by omega), burL_get _ _ _ _ _ (by omega)]
    congr 1
    unfold dB
    by_cases d : t ≤ j - a.length ∧ j - a.length < t + k
    · rw [if_pos (by omega), if_pos d, show j - (a.length + t) = j - a.length - t by omega]
    · rw [if_neg (by omega), if_neg d]
theorem reads_burst {ys : List Sp} {x : Sp} (hc : ∀ z ∈ ys, Can z) (hx : Can x) {t B : Nat} (ht : t + 4 ≤ (bodyL x).length) (h0 : B ≠ 0) (h1 : B < 4294967296) :
    Reads (burL (recs (ys ++ [x])) ((recs ys).length + 6 + t) B 4) ys (recs ys).length := by
  have e : recs (ys ++ [x]) = recs ys ++ ((be 2 ((bodyL x).length : Int) ++ le 4 (mor 0 (be 2 ((bodyL x).length : Int) ++ bodyL x))) ++ bodyL x) := by
    rw [recs_append, recs_one]
    rfl
  have hl : (be 2 ((bodyL x).length : Int) ++ le 4 (mor 0 (be 2 ((bodyL x).length : Int) ++ bodyL x))).length = 6 := by simp [be_len, le_len]
  rw [e, show (recs ys).length + 6 + t = (recs ys).length + (6 + t) by omega, burL_append]
  have e2 := burL_append (be 2 ((bodyL x).length : Int) ++ le 4 (mor 0 (be 2 ((bodyL x).length : Int) ++ bodyL x))) (bodyL x) t B 4
  rw [hl] at e2
  rw [e2]
  refine reads_recs hc ?_
  rw [rd_turned hx (q := burL (bodyL x) t B 4) (burL_len _ _ _ _) (burL_lt _ _ _ _ (body_lt hx.dig))]
  · decide
  · have e3 := burL_append (be 2 ((bodyL x).length : Int)) (bodyL x) t B 4
    rw [be_len] at e3
    rw [← e3]
    have := bur_ne (be 2 ((bodyL x).length : Int) ++ bodyL x) (2 + t) 4 B 0 h0 h1 (by decide) (by simpa using h1) (by rw [List.length_append, be_len]; omega)
    simpa using this
/-- four bytes as one number, the first lowest -/
def four (d : List Nat) : Nat := d.getD 0 0 + 256 * d.getD 1 0 + 65536 * d.getD 2 0 + 16777216 * d.getD 3 0
theorem four_lt {d : List Nat} (hl : d.length = 4) (h : ∀ b ∈ d, b < 256) : four d < 4294967296 := by
  match d, hl with
  | [a, b, c, e], _ =>
    have h0 := h a (by simp); have h1 := h b (by simp); have h2 := h c (by simp); have h3 := h e (by simp)
    simp [four]
    omega
theorem four_at {d : List Nat} (hl : d.length = 4) (h : ∀ b ∈ d, b < 256) {i : Nat} (hi : i < 4) : d[i]? = some (four d / 256 ^ i % 256) := by
  match d, hl with
  | [a, b, c, e], _ =>
    have h0 := h a (by simp); have h1 := h b (by simp); have h2 := h c (by simp); have h3 := h e (by simp)
    match i, hi with
    | 0, _ => simp [four]; omega
    | 1, _ => simp [four]; omega
    | 2, _ => simp [four]; omega
    | 3, _ => simp [four]; omega
theorem four_ne {d : List Nat} (hl : d.length = 4) (h : d ≠ [0, 0, 0, 0]) : four d ≠ 0 := by
  match d, hl with
  | [a, b, c, e], _ =>
    intro z
    simp [four] at z
    apply h
    obtain ⟨rfl, rfl, rfl, rfl⟩ : a = 0 ∧ b = 0 ∧ c = 0 ∧ e = 0 := by omega
    rfl
end Go.Proofs.Ytahalddoloppmaa.Sl
