/-
  CrcLinear walked: of every three texts the law answers true.
-/
import Derived.Test.YtgoplgipjnollaaCrBytes
import Derived.Test.YtgoplgipjnollaaCrAny
import Derived.StillTailTactics
namespace Go.Proofs.Ytgoplgipjnollaa.Cr
open Go.RowKit Go.PlainAid
set_option linter.unusedVariables false

/-- the bytes of three texts, xored, the first k of them -/
def xl (a b c : ByteArray) (n k : Nat) : List Nat := (List.range n).map fun j => if j < k then bn a j ^^^ bn b j ^^^ bn c j else bn a j
theorem xl_len (a b c : ByteArray) (n k : Nat) : (xl a b c n k).length = n := by simp [xl]
theorem bl_take (s : ByteArray) (k : Nat) : bl (s.extract 0 k) = (bl s).take k := by
  unfold bl
  rw [ByteArray.data_extract, Array.toList_extract, List.extract_eq_take_drop, List.map_take, List.map_drop, List.drop_zero, Nat.sub_zero]
theorem bl_get (s : ByteArray) (j : Nat) (h : j < s.size) : (bl s)[j]'(by rw [bl_len]; exact h) = bn s j := by
  unfold bn bt
  rw [dif_pos h]
  simp only [bl, List.getElem_map]
  rfl
theorem cut_get (s : ByteArray) (n j : Nat) (hn : n ≤ s.size) (h : j < (bl (s.extract 0 n)).length) : (bl (s.extract 0 n))[j] = bn s j := by
  have hl : (bl (s.extract 0 n)).length = n := by rw [bl_len, ByteArray.size_extract]; omega
  have e := bl_take s n
  have : (bl (s.extract 0 n))[j]? = ((bl s).take n)[j]? := by rw [e]
  rw [List.getElem?_eq_getElem h, List.getElem?_take, if_pos (by omega), List.getElem?_eq_getElem (by rw [bl_len]; omega), bl_get s j (by omega)] at this
  simpa using this
theorem xl_zero (a b c : ByteArray) (n : Nat) (h : n ≤ a.size) : bl (a.extract 0 n) = xl a b c n 0 := by
  have hl : (bl (a.extract 0 n)).length = n := by rw [bl_len, ByteArray.size_extract]; omega
  refine List.ext_getElem (by rw [hl, xl_len]) fun j h1 h2 => ?_
  rw [cut_get a n j h h1]
  simp [xl]
theorem xl_at (a b c : ByteArray) (n k : Nat) (h : k < n) : (xl a b c n k)[k]? = some (bn a k) := by
  rw [List.getElem?_eq_getElem (by rw [xl_len]; exact h)]
  simp [xl]
theorem xl_succ (a b c : ByteArray) (n k : Nat) (h : k < n) : xl a b c n (k + 1) = (xl a b c n k).set k (bn a k ^^^ bn b k ^^^ bn c k) := by
  refine List.ext_getElem (by rw [List.length_set, xl_len, xl_len]) fun j h1 h2 => ?_
  rw [List.getElem_set]
  by_cases e : k = j
  · subst e; rw [if_pos rfl]; simp [xl]
  · rw [if_neg e]
    simp only [xl, List.getElem_map, List.getElem_range]
    by_cases d : j < k
    · rw [if_pos (by omega), if_pos d]
    · rw [if_neg (by omega), if_neg d]
theorem x256 {a b : Nat} (ha : a < 256) (hb : b < 256) : a ^^^ b < 256 := Nat.xor_lt_two_pow (n := 8) ha hb
theorem xl_lt (a b c : ByteArray) (n k : Nat) : ∀ x ∈ xl a b c n k, x < 256 := by
  intro x hx
  simp only [xl, List.mem_map] at hx
  obtain ⟨j, _, rfl⟩ := hx
  split
  · exact x256 (x256 (bn_lt a j) (bn_lt b j)) (bn_lt c j)
  · exact bn_lt a j
theorem xl_all (a b c : ByteArray) (n : Nat) (ha : n ≤ a.size) (hb : n ≤ b.size) (hc : n ≤ c.size) :
    xl a b c n n = List.zipWith (· ^^^ ·) (List.zipWith (· ^^^ ·) (bl (a.extract 0 n)) (bl (b.extract 0 n))) (bl (c.extract 0 n)) := by
  have la : (bl (a.extract 0 n)).length = n := by rw [bl_len, ByteArray.size_extract]; omega
  have lb : (bl (b.extract 0 n)).length = n := by rw [bl_len, ByteArray.size_extract]; omega
  have lc : (bl (c.extract 0 n)).length = n := by rw [bl_len, ByteArray.size_extract]; omega
  refine List.ext_getElem (by rw [xl_len, List.length_zipWith, List.length_zipWith]; omega) fun j h1 h2 => ?_
  have hj : j < n := by rw [xl_len] at h1; exact h1
  rw [List.getElem_zipWith, List.getElem_zipWith, cut_get a n j ha, cut_get b n j hb, cut_get c n j hc]
  simp [xl, hj]
/-- sums are linear -/
theorem linear (a b c : ByteArray) (n : Nat) (ha : n ≤ a.size) (hb : n ≤ b.size) (hc : n ≤ c.size) :
    mor 0 (bl (a.extract 0 n)) ^^^ mor 0 (bl (b.extract 0 n)) ^^^ mor 0 (bl (c.extract 0 n)) = mor 0 (xl a b c n n) := by
  have la : (bl (a.extract 0 n)).length = n := by rw [bl_len, ByteArray.size_extract]; omega
  have lb : (bl (b.extract 0 n)).length = n := by rw [bl_len, ByteArray.size_extract]; omega
  have lc : (bl (c.extract 0 n)).length = n := by rw [bl_len, ByteArray.size_extract]; omega
  rw [xl_all a b c n ha hb hc]
  unfold mor
  have e : (0 ^^^ 4294967295 : Nat) = ((0 ^^^ 4294967295) ^^^ (0 ^^^ 4294967295)) ^^^ (0 ^^^ 4294967295) := by decide
  have k : crcL (0 ^^^ 4294967295) (List.zipWith (· ^^^ ·) (List.zipWith (· ^^^ ·) (bl (a.extract 0 n)) (bl (b.extract 0 n))) (bl (c.extract 0 n))) = crcL (0 ^^^ 4294967295) (bl (a.extract 0 n)) ^^^ crcL (0 ^^^ 4294967295) (bl (b.extract 0 n)) ^^^ crcL (0 ^^^ 4294967295) (bl (c.extract 0 n)) := by
    have k1 := crcL_xor (List.zipWith (· ^^^ ·) (bl (a.extract 0 n)) (bl (b.extract 0 n))) (bl (c.extract 0 n)) ((0 ^^^ 4294967295) ^^^ (0 ^^^ 4294967295)) (0 ^^^ 4294967295) (by rw [List.length_zipWith]; omega)
    rw [crcL_xor (bl (a.extract 0 n)) (bl (b.extract 0 n)) (0 ^^^ 4294967295) (0 ^^^ 4294967295) (by omega), ← e] at k1
    exact k1
  rw [k]
  generalize crcL (0 ^^^ 4294967295) (bl (a.extract 0 n)) = x
  generalize crcL (0 ^^^ 4294967295) (bl (b.extract 0 n)) = y
  generalize crcL (0 ^^^ 4294967295) (bl (c.extract 0 n)) = z
  rw [x4 x 4294967295 y 4294967295, Nat.xor_self, Nat.xor_zero, Nat.xor_assoc (x ^^^ y)]
/-- what the slots hold of those that have come up -/
structure LI (A B C X : ByteArray) (l : Array Bool) (w : World) (x48 x49 x53 x54 x55 x59 x60 x61 x64 x65 x66 x6 : Value) : Prop where
  size : l.size = 23
  old : ([0, 1, 2, 5, 6, 7, 11, 12, 13, 17, 18].all fun j => l.getD j true) = true
  f3 : l.getD 3 false = true → StrsAt w x48 [A]
  f4 : l.getD 4 false = true → x49 = .int .u32 (mor 0 (bl A) : Nat)
  f8 : l.getD 8 false = true → StrsAt w x53 [B]
  f9 : l.getD 9 false = true → x54 = .int .u32 (mor 0 (bl B) : Nat)
  f10 : l.getD 10 false = true → x55 = .int .u32 (mor 0 (bl A) ^^^ mor 0 (bl B) : Nat)
  f14 : l.getD 14 false = true → StrsAt w x59 [C]
  f15 : l.getD 15 false = true → x60 = .int .u32 (mor 0 (bl C) : Nat)
  f16 : l.getD 16 false = true → x61 = .int .u32 (mor 0 (bl A) ^^^ mor 0 (bl B) ^^^ mor 0 (bl C) : Nat)
  f19 : l.getD 19 false = true → StrsAt w x64 [X]
  f20 : l.getD 20 false = true → x65 = .int .u32 (mor 0 (bl X) : Nat)
  f21 : l.getD 21 false = true → x66 = .bool true
  f22 : l.getD 22 false = true → x6 = .bool true
theorem back {l : Array Bool} {i j : Nat} (hi : i < l.size) (hne : i ≠ j) (k : (l.setIfInBounds i true).getD j false = true) : l.getD j false = true := by
  rw [getD_set l i j false hi, if_neg hne] at k; exact k
theorem old_set {l : Array Bool} {i : Nat} {o : List Nat} (hi : i < l.size) (h : (o.all fun j => l.getD j true) = true) : (o.all fun j => (l.setIfInBounds i true).getD j true) = true := by
  rw [List.all_eq_true] at h ⊢
  intro j hj
  rw [getD_set l i j true hi]
  split
  · rfl
  · exact h j hj
theorem StrsAt.below {w x : World} {v : Value} {ss : List ByteArray} (hv : StrsAt w v ss) (hb : Below w.heap.size w x) : StrsAt x v ss := by
  obtain ⟨base, cap, e, hc⟩ := hv.is
  refine ⟨base, cap, e, fun j s hs => ?_⟩
  obtain ⟨a, e, ha, hcell⟩ := hc j s hs
  refine ⟨a, e, Nat.lt_of_lt_of_le ha hb.size, ?_⟩
  rw [hb.cell (by have : (a.add j).block = a.block := by unfold Addr.add; split <;> rfl
                  rw [this]; exact ha)]
  exact hcell
theorem LI.world {A B C X : ByteArray} {l : Array Bool} {w : World} {x48 x49 x53 x54 x55 x59 x60 x61 x64 x65 x66 x6 : Value} {w' : World} (h : LI A B C X l w x48 x49 x53 x54 x55 x59 x60 x61 x64 x65 x66 x6) (hb : Below w.heap.size w w') : LI A B C X l w' x48 x49 x53 x54 x55 x59 x60 x61 x64 x65 x66 x6 :=
  ⟨h.size, h.old, fun k => (h.f3 k).below hb, h.f4, fun k => (h.f8 k).below hb, h.f9, h.f10, fun k => (h.f14 k).below hb, h.f15, h.f16, fun k => (h.f19 k).below hb, h.f20, h.f21, h.f22⟩
theorem LI.set3 {A B C X : ByteArray} {l : Array Bool} {w : World} {x48 x49 x53 x54 x55 x59 x60 x61 x64 x65 x66 x6 : Value} (h : LI A B C X l w x48 x49 x53 x54 x55 x59 x60 x61 x64 x65 x66 x6) {v : Value} (hv : StrsAt w v [A]) : LI A B C X (l.setIfInBounds 3 true) w v x49 x53 x54 x55 x59 x60 x61 x64 x65 x66 x6 :=
  have hi : 3 < l.size := by rw [h.size]; decide
  ⟨by rw [Array.size_setIfInBounds]; exact h.size, old_set hi h.old, fun _ => hv, fun k => h.f4 (back hi (by decide) k), fun k => h.f8 (back hi (by decide) k), fun k => h.f9 (back hi (by decide) k), fun k => h.f10 (back hi (by decide) k), fun k => h.f14 (back hi (by decide) k), fun k => h.f15 (back hi (by decide) k), fun k => h.f16 (back hi (by decide) k), fun k => h.f19 (back hi (by decide) k), fun k => h.f20 (back hi (by decide) k), fun k => h.f21 (back hi (by decide) k), fun k => h.f22 (back hi (by decide) k)⟩
theorem LI.set4 {A B C X : ByteArray} {l : Array Bool} {w : World} {x48 x49 x53 x54 x55 x59 x60 x61 x64 x65 x66 x6 : Value} (h : LI A B C X l w x48 x49 x53 x54 x55 x59 x60 x61 x64 x65 x66 x6) {v : Value} (hv : v = .int .u32 (mor 0 (bl A) : Nat)) : LI A B C X (l.setIfInBounds 4 true) w x48 v x53 x54 x55 x59 x60 x61 x64 x65 x66 x6 :=
  have hi : 4 < l.size := by rw [h.size]; decide
  ⟨by rw [Array.size_setIfInBounds]; exact h.size, old_set hi h.old, fun k => h.f3 (back hi (by decide) k), fun _ => hv, fun k => h.f8 (back hi (by decide) k), fun k => h.f9 (back hi (by decide) k), fun k => h.f10 (back hi (by decide) k), fun k => h.f14 (back hi (by decide) k), fun k => h.f15 (back hi (by decide) k), fun k => h.f16 (back hi (by decide) k), fun k => h.f19 (back hi (by decide) k), fun k => h.f20 (back hi (by decide) k), fun k => h.f21 (back hi (by decide) k), fun k => h.f22 (back hi (by decide) k)⟩
theorem LI.set8 {A B C X : ByteArray} {l : Array Bool} {w : World} {x48 x49 x53 x54 x55 x59 x60 x61 x64 x65 x66 x6 : Value} (h : LI A B C X l w x48 x49 x53 x54 x55 x59 x60 x61 x64 x65 x66 x6) {v : Value} (hv : StrsAt w v [B]) : LI A B C X (l.setIfInBounds 8 true) w x48 x49 v x54 x55 x59 x60 x61 x64 x65 x66 x6 :=
  have hi : 8 < l.size := by rw [h.size]; decide
  ⟨by rw [Array.size_setIfInBounds]; exact h.size, old_set hi h.old, fun k => h.f3 (back hi (by decide) k), fun k => h.f4 (back hi (by decide) k), fun _ => hv, fun k => h.f9 (back hi (by decide) k), fun k => h.f10 (back hi (by decide) k), fun k => h.f14 (back hi (by decide) k), fun k => h.f15 (back hi (by decide) k), fun k => h.f16 (back hi (by decide) k), fun k => h.f19 (back hi (by decide) k), fun k => h.f20 (back hi (by decide) k), fun k => h.f21 (back hi (by decide) k), fun k => h.f22 (back hi (by decide) k)⟩
theorem LI.set9 {A B C X : ByteArray} {l : Array Bool} {w : World} {x48 x49 x53 x54 x55 x59 x60 x61 x64 x65 x66 x6 : Value} (h : LI A B C X l w x48 x49 x53 x54 x55 x59 x60 x61 x64 x65 x66 x6) {v : Value} (hv : v = .int .u32 (mor 0 (bl B) : Nat)) : LI A B C X (l.setIfInBounds 9 true) w x48 x49 x53 v x55 x59 x60 x61 x64 x65 x66 x6 :=
  have hi : 9 < l.size := by rw [h.size]; decide
  ⟨by rw [Array.size_setIfInBounds]; exact h.size, old_set hi h.old, fun k => h.f3 (back hi (by decide) k), fun k => h.f4 (back hi (by decide) k), fun k => h.f8 (back hi (by decide) k), fun _ => hv, fun k => h.f10 (back hi (by decide) k), fun k => h.f14 (back hi (by decide) k), fun k => h.f15 (back hi (by decide) k), fun k => h.f16 (back hi (by decide) k), fun k => h.f19 (back hi (by decide) k), fun k => h.f20 (back hi (by decide) k), fun k => h.f21 (back hi (by decide) k), fun k => h.f22 (back hi (by decide) k)⟩
theorem LI.set10 {A B C X : ByteArray} {l : Array Bool} {w : World} {x48 x49 x53 x54 x55 x59 x60 x61 x64 x65 x66 x6 : Value} (h : LI A B C X l w x48 x49 x53 x54 x55 x59 x60 x61 x64 x65 x66 x6) {v : Value} (hv : v = .int .u32 (mor 0 (bl A) ^^^ mor 0 (bl B) : Nat)) : LI A B C X (l.setIfInBounds 10 true) w x48 x49 x53 x54 v x59 x60 x61 x64 x65 x66 x6 :=
  have hi : 10 < l.size := by rw [h.size]; decide
  ⟨by rw [Array.size_setIfInBounds]; exact h.size, old_set hi h.old, fun k => h.f3 (back hi (by decide) k), fun k => h.f4 (back hi (by decide) k), fun k => h.f8 (back hi (by decide) k), fun k => h.f9 (back hi (by decide) k), fun _ => hv, fun k => h.f14 (back hi (by decide) k), fun k => h.f15 (back hi (by decide) k), fun k => h.f16 (back hi (by decide) k), fun k => h.f19 (back hi (by decide) k), fun k => h.f20 (back hi (by decide) k), fun k => h.f21 (back hi (by decide) k), fun k => h.f22 (back hi (by decide) k)⟩
theorem LI.set14 {A B C X : ByteArray} {l : Array Bool} {w : World} {x48 x49 x53 x54 x55 x59 x60 x61 x64 x65 x66 x6 : Value} (h : LI A B C X l w x48 x49 x53 x54 x55 x59 x60 x61 x64 x65 x66 x6) {v : Value} (hv : StrsAt w v [C]) : LI A B C X (l.setIfInBounds 14 true) w x48 x49 x53 x54 x55 v x60 x61 x64 x65 x66 x6 :=
  have hi : 14 < l.size := by rw [h.size]; decide
  ⟨by rw [Array.size_setIfInBounds]; exact h.size, old_set hi h.old, fun k => h.f3 (back hi (by decide) k), fun k => h.f4 (back hi (by decide) k), fun k => h.f8 (back hi (by decide) k), fun k => h.f9 (back hi (by decide) k), fun k => h.f10 (back hi (by decide) k), fun _ => hv, fun k => h.f15 (back hi (by decide) k), fun k => h.f16 (back hi (by decide) k), fun k => h.f19 (back hi (by decide) k), fun k => h.f20 (back hi (by decide) k), fun k => h.f21 (back hi (by decide) k), fun k => h.f22 (back hi (by decide) k)⟩
theorem LI.set15 {A B C X : ByteArray} {l : Array Bool} {w : World} {x48 x49 x53 x54 x55 x59 x60 x61 x64 x65 x66 x6 : Value} (h : LI A B C X l w x48 x49 x53 x54 x55 x59 x60 x61 x64 x65 x66 x6) {v : Value} (hv : v = .int .u32 (mor 0 (bl C) : Nat)) : LI A B C X (l.setIfInBounds 15 true) w x48 x49 x53 x54 x55 x59 v x61 x64 x65 x66 x6 :=
  have hi : 15 < l.size := by rw [h.size]; decide
  ⟨by rw [Array.size_setIfInBounds]; exact h.size, old_set hi h.old, fun k => h.f3 (back hi (by decide) k), fun k => h.f4 (back hi (by decide) k), fun k => h.f8 (back hi (by decide) k), fun k => h.f9 (back hi (by decide) k), fun k => h.f10 (back hi (by decide) k), fun k => h.f14 (back hi (by decide) k), fun _ => hv, fun k => h.f16 (back hi (by decide) k), fun k => h.f19 (back hi (by decide) k), fun k => h.f20 (back hi (by decide) k), fun k => h.f21 (back hi (by decide) k), fun k => h.f22 (back hi (by decide) k)⟩
theorem LI.set16 {A B C X : ByteArray} {l : Array Bool} {w : World} {x48 x49 x53 x54 x55 x59 x60 x61 x64 x65 x66 x6 : Value} (h : LI A B C X l w x48 x49 x53 x54 x55 x59 x60 x61 x64 x65 x66 x6) {v : Value} (hv : v = .int .u32 (mor 0 (bl A) ^^^ mor 0 (bl B) ^^^ mor 0 (bl C) : Nat)) : LI A B C X (l.setIfInBounds 16 true) w x48 x49 x53 x54 x55 x59 x60 v x64 x65 x66 x6 :=
  have hi : 16 < l.size := by rw [h.size]; decide
  ⟨by rw [Array.size_setIfInBounds]; exact h.size, old_set hi h.old, fun k => h.f3 (back hi (by decide) k), fun k => h.f4 (back hi (by decide) k), fun k => h.f8 (back hi (by decide) k), fun k => h.f9 (back hi (by decide) k), fun k => h.f10 (back hi (by decide) k), fun k => h.f14 (back hi (by decide) k), fun k => h.f15 (back hi (by decide) k), fun _ => hv, fun k => h.f19 (back hi (by decide) k), fun k => h.f20 (back hi (by decide) k), fun k => h.f21 (back hi (by decide) k), fun k => h.f22 (back hi (by decide) k)⟩
theorem LI.set19 {A B C X : ByteArray} {l : Array Bool} {w : World} {x48 x49 x53 x54 x55 x59 x60 x61 x64 x65 x66 x6 : Value} (h : LI A B C X l w x48 x49 x53 x54 x55 x59 x60 x61 x64 x65 x66 x6) {v : Value} (hv : StrsAt w v [X]) : LI A B C X (l.setIfInBounds 19 true) w x48 x49 x53 x54 x55 x59 x60 x61 v x65 x66 x6 :=
  have hi : 19 < l.size := by rw [h.size]; decide
  ⟨by rw [Array.size_setIfInBounds]; exact h.size, old_set hi h.old, fun k => h.f3 (back hi (by decide) k), fun k => h.f4 (back hi (by decide) k), fun k => h.f8 (back hi (by decide) k), fun k => h.f9 (back hi (by decide) k), fun k => h.f10 (back hi (by decide) k), fun k => h.f14 (back hi (by decide) k), fun k => h.f15 (back hi (by decide) k), fun k => h.f16 (back hi (by decide) k), fun _ => hv, fun k => h.f20 (back hi (by decide) k), fun k => h.f21 (back hi (by decide) k), fun k => h.f22 (back hi (by decide) k)⟩
theorem LI.set20 {A B C X : ByteArray} {l : Array Bool} {w : World} {x48 x49 x53 x54 x55 x59 x60 x61 x64 x65 x66 x6 : Value} (h : LI A B C X l w x48 x49 x53 x54 x55 x59 x60 x61 x64 x65 x66 x6) {v : Value} (hv : v = .int .u32 (mor 0 (bl X) : Nat)) : LI A B C X (l.setIfInBounds 20 true) w x48 x49 x53 x54 x55 x59 x60 x61 x64 v x66 x6 :=
  have hi : 20 < l.size := by rw [h.size]; decide
  ⟨by rw [Array.size_setIfInBounds]; exact h.size, old_set hi h.old, fun k => h.f3 (back hi (by decide) k), fun k => h.f4 (back hi (by decide) k), fun k => h.f8 (back hi (by decide) k), fun k => h.f9 (back hi (by decide) k), fun k => h.f10 (back hi (by decide) k), fun k => h.f14 (back hi (by decide) k), fun k => h.f15 (back hi (by decide) k), fun k => h.f16 (back hi (by decide) k), fun k => h.f19 (back hi (by decide) k), fun _ => hv, fun k => h.f21 (back hi (by decide) k), fun k => h.f22 (back hi (by decide) k)⟩
theorem LI.set21 {A B C X : ByteArray} {l : Array Bool} {w : World} {x48 x49 x53 x54 x55 x59 x60 x61 x64 x65 x66 x6 : Value} (h : LI A B C X l w x48 x49 x53 x54 x55 x59 x60 x61 x64 x65 x66 x6) {v : Value} (hv : v = .bool true) : LI A B C X (l.setIfInBounds 21 true) w x48 x49 x53 x54 x55 x59 x60 x61 x64 x65 v x6 :=
  have hi : 21 < l.size := by rw [h.size]; decide
  ⟨by rw [Array.size_setIfInBounds]; exact h.size, old_set hi h.old, fun k => h.f3 (back hi (by decide) k), fun k => h.f4 (back hi (by decide) k), fun k => h.f8 (back hi (by decide) k), fun k => h.f9 (back hi (by decide) k), fun k => h.f10 (back hi (by decide) k), fun k => h.f14 (back hi (by decide) k), fun k => h.f15 (back hi (by decide) k), fun k => h.f16 (back hi (by decide) k), fun k => h.f19 (back hi (by decide) k), fun k => h.f20 (back hi (by decide) k), fun _ => hv, fun k => h.f22 (back hi (by decide) k)⟩
theorem LI.set22 {A B C X : ByteArray} {l : Array Bool} {w : World} {x48 x49 x53 x54 x55 x59 x60 x61 x64 x65 x66 x6 : Value} (h : LI A B C X l w x48 x49 x53 x54 x55 x59 x60 x61 x64 x65 x66 x6) {v : Value} (hv : v = .bool true) : LI A B C X (l.setIfInBounds 22 true) w x48 x49 x53 x54 x55 x59 x60 x61 x64 x65 x66 v :=
  have hi : 22 < l.size := by rw [h.size]; decide
  ⟨by rw [Array.size_setIfInBounds]; exact h.size, old_set hi h.old, fun k => h.f3 (back hi (by decide) k), fun k => h.f4 (back hi (by decide) k), fun k => h.f8 (back hi (by decide) k), fun k => h.f9 (back hi (by decide) k), fun k => h.f10 (back hi (by decide) k), fun k => h.f14 (back hi (by decide) k), fun k => h.f15 (back hi (by decide) k), fun k => h.f16 (back hi (by decide) k), fun k => h.f19 (back hi (by decide) k), fun k => h.f20 (back hi (by decide) k), fun k => h.f21 (back hi (by decide) k), fun _ => hv⟩
theorem RowB.drew {w : World} {B : Nat} {l : List Nat} (h : RowB w B l) : RowB w.drew B l := h.old rfl
theorem min3 (a b c n : Nat) (hn : n = min (min a b) c) (w : World) (ts : Array TypeId) (t : TypeId) : (Builtin.min_ ts t #[.int .i64 (a : Int), .int .i64 (b : Int), .int .i64 (c : Int)]).run Try.prog w = .ok (.int .i64 (n : Int)) w := by
  have e : (if (c : Int) < (if (b : Int) < (a : Int) then (b : Int) else (a : Int)) then (c : Int) else (if (b : Int) < (a : Int) then (b : Int) else (a : Int))) = (n : Int) := by
    subst hn
    split <;> split <;> omega
  have : (Builtin.min_ ts t #[.int .i64 (a : Int), .int .i64 (b : Int), .int .i64 (c : Int)]).run Try.prog w = .ok (.int .i64 (if (c : Int) < (if (b : Int) < (a : Int) then (b : Int) else (a : Int)) then (c : Int) else (if (b : Int) < (a : Int) then (b : Int) else (a : Int)))) w := by
    simp [Builtin.min_, Builtin.min2]
  rw [this, e]
theorem wx8 {a b : Nat} (ha : a < 256) (hb : b < 256) : bits .xor .u8 (a : Int) (b : Int) = ((a ^^^ b : Nat) : Int) := u8_xor_nat a b ha hb

set_option maxRecDepth 100000 in
set_option maxHeartbeats 4000000 in
theorem linear_walk (a b c : ByteArray) (w : World) (ha : a.size ≤ 9223372036854775807) (hb : b.size ≤ 9223372036854775807) (hc : c.size ≤ 9223372036854775807) :
    Calls Try.prog 6 #[.string a, .string b, .string c] w fun e w' => e = .returned (.bool true) ∧ Below w.heap.size w w' := by
  obtain ⟨n, hn⟩ : ∃ n : Nat, n = min (min a.size b.size) c.size := ⟨_, rfl⟩
  have na : n ≤ a.size := by omega
  have nb : n ≤ b.size := by omega
  have nc : n ≤ c.size := by omega
  have hmin := fun w ts t => min3 a.size b.size c.size n hn w ts t
  have LIN := Lib.hid (linear a b c n na nb nc)
  have XZ := Lib.hid (xl_zero a b c n na)
  clear hn
  go_enter Try.func6, Try.ntmps6
  go_wp2_with fail
  refine (awake_any _).mono ?_
  rintro e w1 ⟨rfl, F1⟩
  by_cases h : 4096 < n
  · have d1 : decide ((4096 : Int) < (n : Int)) = true := by simp; omega
    go_wp2
    go_ret
    exact ⟨rfl, F1⟩
  have d1 : decide ((4096 : Int) < (n : Int)) = false := by simp; omega
  have l1 : (n : Int) ≤ (a.size : Int) := by omega
  have l2 : (n : Int) ≤ (b.size : Int) := by omega
  have l3 : (n : Int) ≤ (c.size : Int) := by omega
  have zs : (a.extract 0 n).size = n := by rw [ByteArray.size_extract]; omega
  obtain ⟨cap, X, CV, RB, BX, SX⟩ := conv_row w1 (a.extract 0 n)
  rw [zs] at CV
  have JB := F1.trans (BX.mono F1.size)
  have HB : w.heap.size ≤ w1.heap.size := F1.size
  rw [XZ.out] at RB
  clear BX F1 zs
  go_wp2
  clear CV hmin
  generalize w1.heap.size = V at RB SX HB ⊢
  go_loopw [9] (fun i wr => ∃ t : Nat, t ≤ n ∧ i = .int .i64 t ∧ RowB wr V (xl a b c n t) ∧ Below w.heap.size w wr ∧ V < wr.heap.size) (fun i _ => n - (intOf i).toNat)
  case atStart => exact ⟨0, Nat.zero_le _, rfl, RB, JB, SX⟩
  case round =>
    clear RB JB SX
    obtain ⟨t, ht, rfl, RB, JB, SX⟩ := hrel
    by_cases hlt : t < n
    · have f1 : (t : Int) < (n : Int) := by omega
      have f2 : (0 : Int) ≤ (t : Int) := by omega
      have f3 : (t : Int) < (b.size : Int) := by omega
      have f4 : (t : Int) < (c.size : Int) := by omega
      have gb := get_bt b
      have gc := get_bt c
      obtain ⟨c1, c2⟩ := RB.cell t _ (xl_at a b c n t hlt)
      have SU := Lib.hid (xl_succ a b c n t hlt)
      have W1 := Lib.hid (fun v => RB.drew.set t v (by rw [xl_len]; exact hlt))
      have g1 : bits .xor .u8 ((bn a t : Nat) : Int) (bt b t) = ((bn a t ^^^ bn b t : Nat) : Int) := by rw [← bn_bt]; exact wx8 (bn_lt _ _) (bn_lt _ _)
      have g2 : bits .xor .u8 ((bn a t ^^^ bn b t : Nat) : Int) (bt c t) = ((bn a t ^^^ bn b t ^^^ bn c t : Nat) : Int) := by rw [← bn_bt]; exact wx8 (x256 (bn_lt _ _) (bn_lt _ _)) (bn_lt _ _)
      go_wp2
      go_still_tail 14, (by kernel_rfl)
      go_wp2
      go_roundw
      case rel => exact ⟨t + 1, by omega, by go_num, by rw [SU.out]; exact W1.out _, JB.drew.setCell (by simpa using HB) _, by simpa using SX⟩
      case measure => simp [intOf]; omega
    · have f1 : ¬ (t : Int) < (n : Int) := by omega
      obtain rfl : t = n := by omega
      clear hlt ht
      go_wp2
      obtain ⟨q, hq⟩ : ∃ q, q = xl a b c t t := ⟨_, rfl⟩
      have LQ := Lib.hid (show ∀ x ∈ q, x < 256 by rw [hq]; exact xl_lt _ _ _ _ _)
      have NQ := Lib.hid (show q.length = t by rw [hq, xl_len])
      rw [← hq] at RB LIN
      clear hq XZ
      refine wp_region_held (S := fun y => (RowB y V q ∧ V < y.heap.size) ∧ Below w.heap.size w y) (by kernel_rfl) ?_
      change wpAnyH _ _ _ _ _ _ _ _ wr.drew
      have J0 : (RowB wr.drew V q ∧ V < wr.drew.heap.size) ∧ Below w.heap.size w wr.drew := ⟨⟨RB.drew, SX⟩, JB.drew⟩
      clear RB JB SX
      generalize wr.drew = w2 at J0 ⊢
      refine held_take 0 (.string a) rfl (by kernel_rfl) (by kernel_rfl) (by kernel_rfl) (fun _ _ _ h => h) (Or.inl ⟨by rfl, fun x j => by go_simp⟩) J0 (fun K hK => ?_)
      go_simp
      refine hK _ _ ?_
      clear hK K
      refine held_take 1 (.int .i64 (t : Int)) rfl (by kernel_rfl) (by kernel_rfl) (by kernel_rfl) (fun _ _ _ h => h) (Or.inl ⟨by rfl, fun x j => by go_simp⟩) J0 (fun K hK => ?_)
      go_simp
      refine hK _ _ ?_
      clear hK K
      refine held_take 2 (.string (a.extract 0 t)) rfl (by kernel_rfl) (by kernel_rfl) (by kernel_rfl) (fun _ _ _ h => h) (Or.inl ⟨by rfl, fun x j => by go_simp⟩) J0 (fun K hK => ?_)
      go_simp
      refine hK _ _ ?_
      clear hK K
      refine held_take 5 (.string b) rfl (by kernel_rfl) (by kernel_rfl) (by kernel_rfl) (fun _ _ _ h => h) (Or.inl ⟨by rfl, fun x j => by go_simp⟩) J0 (fun K hK => ?_)
      go_simp
      refine hK _ _ ?_
      clear hK K
      refine held_take 6 (.int .i64 (t : Int)) rfl (by kernel_rfl) (by kernel_rfl) (by kernel_rfl) (fun _ _ _ h => h) (Or.inl ⟨by rfl, fun x j => by go_simp⟩) J0 (fun K hK => ?_)
      go_simp
      refine hK _ _ ?_
      clear hK K
      refine held_take 7 (.string (b.extract 0 t)) rfl (by kernel_rfl) (by kernel_rfl) (by kernel_rfl) (fun _ _ _ h => h) (Or.inl ⟨by rfl, fun x j => by go_simp⟩) J0 (fun K hK => ?_)
      go_simp
      refine hK _ _ ?_
      clear hK K
      refine held_take 11 (.string c) rfl (by kernel_rfl) (by kernel_rfl) (by kernel_rfl) (fun _ _ _ h => h) (Or.inl ⟨by rfl, fun x j => by go_simp⟩) J0 (fun K hK => ?_)
      go_simp
      refine hK _ _ ?_
      clear hK K
      refine held_take 12 (.int .i64 (t : Int)) rfl (by kernel_rfl) (by kernel_rfl) (by kernel_rfl) (fun _ _ _ h => h) (Or.inl ⟨by rfl, fun x j => by go_simp⟩) J0 (fun K hK => ?_)
      go_simp
      refine hK _ _ ?_
      clear hK K
      refine held_take 13 (.string (c.extract 0 t)) rfl (by kernel_rfl) (by kernel_rfl) (by kernel_rfl) (fun _ _ _ h => h) (Or.inl ⟨by rfl, fun x j => by go_simp⟩) J0 (fun K hK => ?_)
      go_simp
      refine hK _ _ ?_
      clear hK K
      refine held_take 17 (.slice (some ⟨V, 0, none⟩) t cap) rfl (by kernel_rfl) (by kernel_rfl) (by kernel_rfl) (fun _ _ _ h => h) (Or.inl ⟨by rfl, fun x j => by go_simp⟩) J0 (fun K hK => ?_)
      go_simp
      refine hK _ _ ?_
      clear hK K
      refine held_take 18 (.string (strOf q)) rfl (by kernel_rfl) (by kernel_rfl) (by kernel_rfl) (fun _ _ _ h => h) (Or.inl ⟨by rfl, fun x j => by have cv := j.1.1.conv (cap := cap) LQ.out NQ.out; go_simp⟩) J0 (fun K hK => ?_)
      go_simp
      refine hK _ _ ?_
      clear hK K
      have ZA : Hid (∀ r ∈ [a.extract 0 t], r.size ≤ 9223372036854775807) := Lib.hid (by intro r hr; simp only [List.mem_singleton] at hr; subst hr; rw [ByteArray.size_extract]; omega)
      have ZB : Hid (∀ r ∈ [b.extract 0 t], r.size ≤ 9223372036854775807) := Lib.hid (by intro r hr; simp only [List.mem_singleton] at hr; subst hr; rw [ByteArray.size_extract]; omega)
      have ZC : Hid (∀ r ∈ [c.extract 0 t], r.size ≤ 9223372036854775807) := Lib.hid (by intro r hr; simp only [List.mem_singleton] at hr; subst hr; rw [ByteArray.size_extract]; omega)
      have ZX : Hid (∀ r ∈ [strOf q], r.size ≤ 9223372036854775807) := Lib.hid (by intro r hr; simp only [List.mem_singleton] at hr; subst hr; rw [strOf_size, NQ.out]; omega)
      have BQ := Lib.hid (bl_strOf LQ.out)
      refine any_inv (I := fun l y z => ((RowB z V q ∧ V < z.heap.size) ∧ Below w.heap.size w z) ∧ ∃ x48 x49 x53 x54 x55 x59 x60 x61 x64 x65 x66 x6, y = ⟨#[.string a, .string b, .string c, undef, undef, undef, x6, .int .i64 (t : Int), .slice (some ⟨V, 0, none⟩) t cap, .int .i64 (t : Int), .bool true, .bool false, .string a, .int .i64 (a.size : Int), .string b, .int .i64 (b.size : Int), .string c, .int .i64 (c.size : Int), .int .i64 (t : Int), .int .i64 (t : Int), .bool false, .string a, .int .i64 (t : Int), .string (a.extract 0 t), .slice (some ⟨V, 0, none⟩) t cap, .int .i64 (t : Int), .int .i64 (t : Int), .bool false, u28, u29, u30, u31, u32, u33, u34, u35, u36, u37, u38, u39, u40, u41, u42, u43, u44, .string a, .int .i64 (t : Int), .string (a.extract 0 t), x48, x49, .string b, .int .i64 (t : Int), .string (b.extract 0 t), x53, x54, x55, .string c, .int .i64 (t : Int), .string (c.extract 0 t), x59, x60, x61, .slice (some ⟨V, 0, none⟩) t cap, .string (strOf q), x64, x65, x66], []⟩ ∧ LI (a.extract 0 t) (b.extract 0 t) (c.extract 0 t) (strOf q) l z x48 x49 x53 x54 x55 x59 x60 x61 x64 x65 x66 x6) (fun _ _ _ h => h.1) ?_ ?_ _ _ _ _ (Nat.le_of_eq (by kernel_rfl)) ⟨J0, undef, undef, undef, undef, undef, undef, undef, undef, undef, undef, undef, .bool false, rfl, by kernel_rfl, by kernel_rfl, (fun h => absurd h (by decide)), (fun h => absurd h (by decide)), (fun h => absurd h (by decide)), (fun h => absurd h (by decide)), (fun h => absurd h (by decide)), (fun h => absurd h (by decide)), (fun h => absurd h (by decide)), (fun h => absurd h (by decide)), (fun h => absurd h (by decide)), (fun h => absurd h (by decide)), (fun h => absurd h (by decide)), (fun h => absurd h (by decide))⟩
      · clear J0
        rintro l y z i ⟨J, x48, x49, x53, x54, x55, x59, x60, x61, x64, x65, x66, x6, rfl, hL⟩ hi K hK
        obtain ⟨hi1, hi2, hi3⟩ := ready_spec hi
        have hi4 : i < 23 := by rw [← hL.size]; exact hi3
        have ho := hL.old
        simp only [List.all_cons, List.all_nil, Bool.and_true, Bool.and_eq_true] at ho
        obtain ⟨o0, o1, o2, o5, o6, o7, o11, o12, o13, o17, o18⟩ := ho
        have n0 : i ≠ 0 := fun e => by rw [e, o0] at hi2; cases hi2
        have n1 : i ≠ 1 := fun e => by rw [e, o1] at hi2; cases hi2
        have n2 : i ≠ 2 := fun e => by rw [e, o2] at hi2; cases hi2
        have n5 : i ≠ 5 := fun e => by rw [e, o5] at hi2; cases hi2
        have n6 : i ≠ 6 := fun e => by rw [e, o6] at hi2; cases hi2
        have n7 : i ≠ 7 := fun e => by rw [e, o7] at hi2; cases hi2
        have n11 : i ≠ 11 := fun e => by rw [e, o11] at hi2; cases hi2
        have n12 : i ≠ 12 := fun e => by rw [e, o12] at hi2; cases hi2
        have n13 : i ≠ 13 := fun e => by rw [e, o13] at hi2; cases hi2
        have n17 : i ≠ 17 := fun e => by rw [e, o17] at hi2; cases hi2
        have n18 : i ≠ 18 := fun e => by rw [e, o18] at hi2; cases hi2
        have hc : i = 3 ∨ i = 4 ∨ i = 8 ∨ i = 9 ∨ i = 10 ∨ i = 14 ∨ i = 15 ∨ i = 16 ∨ i = 19 ∨ i = 20 ∨ i = 21 ∨ i = 22 := by omega
        clear o0 n0 o1 n1 o2 n2 o5 n5 o6 n6 o7 n7 o11 n11 o12 n12 o13 n13 o17 n17 o18 n18 hi1 hi2 hi3 hi4
        rcases hc with rfl | rfl | rfl | rfl | rfl | rfl | rfl | rfl | rfl | rfl | rfl | rfl
        · refine wpOp_in rfl rfl ?_
          go_simp
          refine hK _ _ ⟨⟨⟨J.1.1.alloc J.1.2 _, by simp; exact Nat.lt_succ_of_lt J.1.2⟩, J.2.alloc J.2.size _⟩, _, _, _, _, _, _, _, _, _, _, _, _, rfl, (hL.world ((Below.refl _ _).alloc (Nat.le_refl _) _)).set3 (one_strs _ _)⟩
        · refine wpOp_in rfl rfl ?_
          have hs := hL.f3 (ready_dep hi 3 (by kernel_rfl))
          go_simp
          refine (of_any hs (by simp) ZA.out).mono ?_
          rintro e zx ⟨rfl, rfl⟩
          rw [allB_one]
          refine hK _ _ ⟨J, _, _, _, _, _, _, _, _, _, _, _, _, rfl, hL.set4 rfl⟩
        · refine wpOp_in rfl rfl ?_
          go_simp
          refine hK _ _ ⟨⟨⟨J.1.1.alloc J.1.2 _, by simp; exact Nat.lt_succ_of_lt J.1.2⟩, J.2.alloc J.2.size _⟩, _, _, _, _, _, _, _, _, _, _, _, _, rfl, (hL.world ((Below.refl _ _).alloc (Nat.le_refl _) _)).set8 (one_strs _ _)⟩
        · refine wpOp_in rfl rfl ?_
          have hs := hL.f8 (ready_dep hi 8 (by kernel_rfl))
          go_simp
          refine (of_any hs (by simp) ZB.out).mono ?_
          rintro e zx ⟨rfl, rfl⟩
          rw [allB_one]
          refine hK _ _ ⟨J, _, _, _, _, _, _, _, _, _, _, _, _, rfl, hL.set9 rfl⟩
        · refine wpOp_in rfl rfl ?_
          obtain rfl := hL.f4 (ready_dep hi 4 (by kernel_rfl))
          obtain rfl := hL.f9 (ready_dep hi 9 (by kernel_rfl))
          go_simp
          refine hK _ _ ⟨J, _, _, _, _, _, _, _, _, _, _, _, _, rfl, hL.set10 (by rw [wxor (mor_lt (by decide) (bl_lt _)) (mor_lt (by decide) (bl_lt _))])⟩
        · refine wpOp_in rfl rfl ?_
          go_simp
          refine hK _ _ ⟨⟨⟨J.1.1.alloc J.1.2 _, by simp; exact Nat.lt_succ_of_lt J.1.2⟩, J.2.alloc J.2.size _⟩, _, _, _, _, _, _, _, _, _, _, _, _, rfl, (hL.world ((Below.refl _ _).alloc (Nat.le_refl _) _)).set14 (one_strs _ _)⟩
        · refine wpOp_in rfl rfl ?_
          have hs := hL.f14 (ready_dep hi 14 (by kernel_rfl))
          go_simp
          refine (of_any hs (by simp) ZC.out).mono ?_
          rintro e zx ⟨rfl, rfl⟩
          rw [allB_one]
          refine hK _ _ ⟨J, _, _, _, _, _, _, _, _, _, _, _, _, rfl, hL.set15 rfl⟩
        · refine wpOp_in rfl rfl ?_
          obtain rfl := hL.f10 (ready_dep hi 10 (by kernel_rfl))
          obtain rfl := hL.f15 (ready_dep hi 15 (by kernel_rfl))
          go_simp
          refine hK _ _ ⟨J, _, _, _, _, _, _, _, _, _, _, _, _, rfl, hL.set16 (by rw [wxor (xor_lt (mor_lt (by decide) (bl_lt _)) (mor_lt (by decide) (bl_lt _))) (mor_lt (by decide) (bl_lt _))])⟩
        · refine wpOp_in rfl rfl ?_
          go_simp
          refine hK _ _ ⟨⟨⟨J.1.1.alloc J.1.2 _, by simp; exact Nat.lt_succ_of_lt J.1.2⟩, J.2.alloc J.2.size _⟩, _, _, _, _, _, _, _, _, _, _, _, _, rfl, (hL.world ((Below.refl _ _).alloc (Nat.le_refl _) _)).set19 (one_strs _ _)⟩
        · refine wpOp_in rfl rfl ?_
          have hs := hL.f19 (ready_dep hi 19 (by kernel_rfl))
          go_simp
          refine (of_any hs (by simp) ZX.out).mono ?_
          rintro e zx ⟨rfl, rfl⟩
          rw [allB_one]
          refine hK _ _ ⟨J, _, _, _, _, _, _, _, _, _, _, _, _, rfl, hL.set20 rfl⟩
        · refine wpOp_in rfl rfl ?_
          obtain rfl := hL.f16 (ready_dep hi 16 (by kernel_rfl))
          obtain rfl := hL.f20 (ready_dep hi 20 (by kernel_rfl))
          go_simp
          refine hK _ _ ⟨J, _, _, _, _, _, _, _, _, _, _, _, _, rfl, hL.set21 (by rw [LIN.out, BQ.out]; simp)⟩
        · refine wpOp_in rfl rfl ?_
          obtain rfl := hL.f21 (ready_dep hi 21 (by kernel_rfl))
          go_simp
          refine hK _ _ ⟨J, _, _, _, _, _, _, _, _, _, _, _, _, rfl, hL.set22 rfl⟩
      · clear J0
        rintro l y z ⟨J, x48, x49, x53, x54, x55, x59, x60, x61, x64, x65, x66, x6, rfl, hL⟩ hr
        have hall := all_listed (by kernel_rfl) (by rw [hL.size]; kernel_rfl) hr 23 22 (by decide) (of_decide_eq_true (by kernel_rfl))
        obtain rfl := hL.f22 hall
        go_wp2
        go_ret
        exact ⟨rfl, J.2⟩
end Go.Proofs.Ytgoplgipjnollaa.Cr
