/-
  Rows of bytes that came of a text and are written to; a burst laid over bytes: in plain terms.
-/
import Derived.Test.YtahalddoloppmaaCrAwake
import Derived.Deep.DeepCutAuto
namespace Go.Proofs.Ytahalddoloppmaa.Cr
open Go.RowKit Go.PlainAid
set_option linter.unusedVariables false

/-- block B holds the bytes l, which may be written -/
structure RowB (w : World) (B : Nat) (l : List Nat) : Prop where
  cell : ∀ (j x : Nat), l[j]? = some x → w.cell? ⟨B, j, none⟩ = some (.int .u8 (x : Int)) ∧ w.frozen? ⟨B, j, none⟩ = false
theorem RowB.old {w w' : World} {B : Nat} {l : List Nat} (h : RowB w B l) (hw : w'.heap[B]? = w.heap[B]?) : RowB w' B l :=
  ⟨fun j x hx => by rw [World.cell?_of_block (w := w) hw, World.frozen?_of_block (w := w) hw]; exact h.cell j x hx⟩
theorem RowB.below {w w' : World} {B N : Nat} {l : List Nat} (h : RowB w B l) (hb : Below N w w') (hB : B < N) : RowB w' B l := h.old (hb.block B hB)
theorem RowB.alloc {w : World} {B : Nat} {l : List Nat} (h : RowB w B l) (hB : B < w.heap.size) (o : Obj) : RowB (w.alloc o) B l := h.old (Below.heap_alloc _ _ _ hB)
theorem cell_ne {w : World} {B j i : Nat} {u v : Value} (h : j ≠ i) (hc : w.cell? ⟨B, j, none⟩ = some u) : (w.setCell ⟨B, i, none⟩ v).cell? ⟨B, j, none⟩ = some u := by
  rw [World.cell?_setCell_other _ _ _ _ (by intro e; injection e; omega)]; exact hc
theorem RowB.set {w : World} {B : Nat} {l : List Nat} (h : RowB w B l) (i v : Nat) (hi : i < l.length) : RowB (w.setCell ⟨B, i, none⟩ (.int .u8 (v : Int))) B (l.set i v) := by
  refine ⟨fun j x hx => ?_⟩
  rw [World.frozen?_setCell]
  by_cases e : j = i
  · subst e
    rw [List.getElem?_set_self hi] at hx
    obtain rfl : v = x := by simpa using hx
    have c := h.cell j l[j] (List.getElem?_eq_getElem hi)
    exact ⟨World.cell?_setCell_same _ _ _ c.1, c.2⟩
  · rw [List.getElem?_set_ne (by omega)] at hx
    exact ⟨cell_ne e (h.cell j x hx).1, (h.cell j x hx).2⟩
theorem RowB.conv {w : World} {B cap : Nat} {l : List Nat} (h : RowB w B l) (hl : ∀ x ∈ l, x < 256) {n : Nat} (hn : l.length = n) : (convert 42 9 (.slice (some ⟨B, 0, none⟩) n cap)).run Try.prog w = .ok (.string (strOf l)) w := by
  subst hn
  have := run_convert_bytes_back (P := Try.prog) w 42 9 5 ⟨B, 0, none⟩ cap (l.map UInt8.ofNat) Try.underlying42 Try.underlying5 Try.underlying9 (fun j hj => by
    rw [add_addr]
    have hj' : j < l.length := by simpa using hj
    rw [(h.cell j l[j] (List.getElem?_eq_getElem hj')).1]
    have := hl l[j] (List.getElem_mem hj')
    simp [Nat.mod_eq_of_lt this])
  rw [List.length_map] at this
  exact this
theorem conv_row (w : World) (s : ByteArray) : ∃ cap X, (convert 9 42 (.string s)).run Try.prog w = .ok (.slice (some ⟨w.heap.size, 0, none⟩) s.size cap) X ∧ RowB X w.heap.size (bl s) ∧ Below w.heap.size w X ∧ w.heap.size < X.heap.size := by
  refine ⟨_, _, Lib.run_convert_string_bytes w 9 42 5 s Try.underlying9 Try.underlying42 Try.underlying5, ⟨?_⟩, ?_, ?_⟩
  · intro j x hx
    have hj : j < s.size := by
      have := (List.getElem?_eq_some_iff.1 hx).1
      rwa [bl_len] at this
    refine ⟨?_, ?_⟩
    · rw [Lib.bytesWorld_cell w 5 s j hj]
      have e := (List.getElem?_eq_some_iff.1 hx).2
      simp [bl] at e
      simp [← e, hj]
    · have hz : s.size ≤ (Lib.bytesCells w 5 s).size := by simp [Lib.bytesCells]
      have hn := Lib.bytesWorld_at_new w 5 s
      simp [World.frozen?, hn]; omega
  · exact ⟨rfl, rfl, rfl, by rw [Lib.bytesWorld_size]; omega, fun k hk => Lib.bytesWorld_at_old w 5 s k hk⟩
  · rw [Lib.bytesWorld_size]; omega

/-! a burst -/
/-- what is laid over the byte at j: k bytes of the number B from p on -/
def dB (p B k j : Nat) : Nat := if p ≤ j ∧ j < p + k then B / 256 ^ (j - p) % 256 else 0
def dL (n p B k : Nat) : List Nat := (List.range n).map (dB p B k)
def burL (l : List Nat) (p B k : Nat) : List Nat := List.zipWith (· ^^^ ·) l (dL l.length p B k)
theorem dL_len (n p B k : Nat) : (dL n p B k).length = n := by simp [dL]
theorem burL_len (l : List Nat) (p B k : Nat) : (burL l p B k).length = l.length := by simp [burL, dL]
theorem burL_get (l : List Nat) (p B k j : Nat) (h : j < l.length) : (burL l p B k)[j]'(by rw [burL_len]; exact h) = l[j] ^^^ dB p B k j := by
  simp [burL, dL]
theorem burL_zero (l : List Nat) (p B : Nat) : burL l p B 0 = l := by
  refine List.ext_getElem (burL_len _ _ _ _) fun j h1 h2 => ?_
  rw [burL_get l p B 0 j h2]
  unfold dB; rw [if_neg (by omega), Nat.xor_zero]
theorem burL_succ (l : List Nat) (p B k : Nat) (h : p + k < l.length) : burL l p B (k + 1) = (burL l p B k).set (p + k) (l[p + k] ^^^ (B / 256 ^ k % 256)) := by
  refine List.ext_getElem (by rw [List.length_set, burL_len, burL_len]) fun j h1 h2 => ?_
  have hj : j < l.length := by rw [burL_len] at h1; exact h1
  rw [burL_get l p B (k + 1) j hj, List.getElem_set]
  by_cases e : p + k = j
  · subst e
    rw [if_pos rfl]
    unfold dB; rw [if_pos (by omega), show p + k - p = k by omega]
  · rw [if_neg e, burL_get l p B k j hj]
    congr 1
    unfold dB
    by_cases c : p ≤ j ∧ j < p + k
    · rw [if_pos (by omega), if_pos c]
    · rw [if_neg (by omega), if_neg c]
theorem burL_past (l : List Nat) (p B k : Nat) (h : l.length ≤ p + k) : burL l p B (k + 1) = burL l p B k := by
  refine List.ext_getElem (by rw [burL_len, burL_len]) fun j h1 h2 => ?_
  have hj : j < l.length := by rw [burL_len] at h1; exact h1
  rw [burL_get l p B (k + 1) j hj, burL_get l p B k j hj]
  congr 1
  unfold dB
  by_cases c : p ≤ j ∧ j < p + k
  · rw [if_pos (by omega), if_pos c]
  · rw [if_neg (by omega), if_neg c]
theorem burL_at (l : List Nat) (p B k : Nat) (h : p + k < l.length) : (burL l p B k)[p + k]? = some l[p + k] := by
  rw [List.getElem?_eq_getElem (by rw [burL_len]; exact h), burL_get l p B k (p + k) h]
  unfold dB; rw [if_neg (by omega), Nat.xor_zero]
theorem burL_lt (l : List Nat) (p B k : Nat) (hl : ∀ x ∈ l, x < 256) : ∀ x ∈ burL l p B k, x < 256 := by
  intro x hx
  obtain ⟨j, hj, rfl⟩ := List.getElem_of_mem hx
  have hj' : j < l.length := by rw [burL_len] at hj; exact hj
  rw [burL_get l p B k j hj']
  refine Nat.xor_lt_two_pow (n := 8) (hl _ (List.getElem_mem hj')) ?_
  unfold dB; split
  · exact Nat.mod_lt _ (by decide)
  · decide
theorem le_get : ∀ (k n j : Nat) (h : j < (le k n).length), (le k n)[j] = n / 256 ^ j % 256
  | 0, n, j, h => by simp [le] at h
  | k + 1, n, 0, h => by simp [le]
  | k + 1, n, j + 1, h => by
    simp only [le, List.getElem_cons_succ]
    rw [le_get k (n / 256) j, Nat.div_div_eq_div_mul, Nat.pow_succ, Nat.mul_comm]
theorem dL_eq (n p B k : Nat) (h : p + k ≤ n) : dL n p B k = List.replicate p 0 ++ le k B ++ List.replicate (n - p - k) 0 := by
  refine List.ext_getElem (by rw [dL_len]; simp [le_len]; omega) fun j h1 h2 => ?_
  have e : (dL n p B k)[j] = dB p B k j := by simp [dL]
  rw [e]
  unfold dB
  by_cases a : j < p
  · rw [if_neg (by omega), List.getElem_append_left (by simp [le_len]; omega), List.getElem_append_left (by simpa using a)]
    simp
  · by_cases b : j < p + k
    · rw [if_pos (by omega), List.getElem_append_left (by simp [le_len]; omega), List.getElem_append_right (by simp; omega), le_get]
      simp
    · rw [if_neg (by omega), List.getElem_append_right (by simp [le_len]; omega)]
      simp
theorem bur_ne (l : List Nat) (p k mask r : Nat) (h0 : mask ≠ 0) (h1 : mask < 4294967296) (hr : r ≤ 8 * k) (hk : mask * 2 ^ r < 256 ^ k) (h : p + k ≤ l.length) :
    mor 0 (burL l p (mask * 2 ^ r) k) ≠ mor 0 l := by
  intro c
  unfold mor at c
  have c2 := congrArg (· ^^^ 4294967295) c
  simp only [xx] at c2
  unfold burL at c2
  rw [show (0 ^^^ 4294967295 : Nat) = (0 ^^^ 4294967295) ^^^ 0 by rw [Nat.xor_zero]] at c2
  rw [crcL_xor l (dL l.length p (mask * 2 ^ r) k) (0 ^^^ 4294967295) 0 (by rw [dL_len])] at c2
  rw [Nat.xor_zero] at c2
  have z : crcL 0 (dL l.length p (mask * 2 ^ r) k) = 0 := by
    have c3 := congrArg (crcL (0 ^^^ 4294967295) l ^^^ ·) c2
    simp only [Nat.xor_self, ← Nat.xor_assoc, Nat.zero_xor] at c3
    exact c3
  rw [dL_eq _ _ _ _ h] at z
  exact burst_ne p (l.length - p - k) k mask r h0 h1 hr hk z
/-- a burst of up to 32 bits from bit 8 * p + r on, laid over five bytes, as far as there are any -/
theorem told (l : List Nat) (p r mask : Nat) (h0 : mask ≠ 0) (h1 : mask < 4294967296) (hr : r < 8) (hb : 8 * p + r + 32 ≤ 8 * l.length) :
    mor 0 (burL l p (mask * 2 ^ r) 5) ≠ mor 0 l := by
  by_cases c : p + 5 ≤ l.length
  · refine bur_ne l p 5 mask r h0 h1 (by omega) ?_ c
    have : mask * 2 ^ r < 4294967296 * 2 ^ 8 := Nat.lt_of_lt_of_le (Nat.mul_lt_mul_of_pos_right h1 (Nat.two_pow_pos r)) (Nat.mul_le_mul_left _ (Nat.pow_le_pow_right (by decide) (by omega)))
    omega
  · obtain rfl : r = 0 := by omega
    rw [burL_past l p _ 4 (by omega)]
    exact bur_ne l p 4 mask 0 h0 h1 (by omega) (by omega) (by omega)
end Go.Proofs.Ytahalddoloppmaa.Cr
