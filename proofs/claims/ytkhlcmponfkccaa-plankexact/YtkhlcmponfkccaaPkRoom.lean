/-
  What a nil disk answers; the sum of all sizes; names that rise.
-/
import Derived.Test.YtkhlcmponfkccaaPkFails
namespace Go.Proofs.Ytkhlcmponfkccaa.Pk
open Go.RowKit Go.PlainAid Go.Maps
set_option linter.unusedVariables false
set_option linter.unusedSimpArgs false

theorem flip {P : Program} {f : Nat} {args : Array Value} {w : World} {v : Value} (h : Calls P f args w fun e w' => e = .returned v ∧ w = w') : Calls P f args w fun e w' => e = .returned v ∧ w' = w :=
  h.mono fun _ _ ⟨a, b⟩ => ⟨a, b.symm⟩
theorem begin_nil (g : Bool) (w : World) : Calls Try.prog 42 #[.pointer none, .bool g] w fun e w' => e = .returned (.int .i64 2) ∧ w = w' := by
  go_enter Try.func42, Try.ntmps42
  go_wp2
  go_ret
  exact ⟨rfl, rfl⟩
theorem reach_nil (s : ByteArray) (g : Bool) (w : World) : Calls Try.prog 47 #[.pointer none, .string s, .bool g] w fun e w' => e = .returned (.tuple #[.pointer none, .int .i64 2]) ∧ w = w' := by
  have B := begin_nil g w
  go_enter Try.func47, Try.ntmps47
  go_wp2_with fail
  refine B.mono ?_
  rintro e w' ⟨rfl, rfl⟩
  go_wp2
  go_ret2
  exact ⟨rfl, rfl⟩
set_option maxRecDepth 100000 in
theorem create_nil {s : ByteArray} (hs : s.size ≤ 9223372036854775807) (w : World) : Calls Try.prog 11 #[.pointer none, .string s] w fun e w' => e = .returned (.int .i64 2) ∧ Below w.heap.size w w' := by
  have N1 := name_one w hs
  generalize isName (kl s) = good at *
  go_enter Try.func11, Try.ntmps11
  go_wp2_with fail
  refine N1.mono ?_
  rintro e w' ⟨rfl, rfl⟩
  go_wp2_with fail
  refine (begin_nil good _).mono ?_
  rintro e w' ⟨rfl, rfl⟩
  go_wp2
  go_ret
  exact ⟨rfl, (Below.refl _ _).alloc (Nat.le_refl _) _⟩
set_option maxRecDepth 100000 in
theorem read_nil {s : ByteArray} (hs : s.size ≤ 9223372036854775807) (hg : isName (kl s) = true) (w : World) : Calls Try.prog 15 #[.pointer none, .string s, .int .i64 0, .int .i64 1] w fun e w' => e = .returned (.tuple #[.string ⟨#[]⟩, .int .i64 2]) ∧ Below w.heap.size w w' := by
  have N1 := name_one w hs
  rw [hg] at N1
  go_enter Try.func15, Try.ntmps15
  go_wp2_with fail
  refine N1.mono ?_
  rintro e w' ⟨rfl, rfl⟩
  go_wp2_with fail
  refine (reach_nil s true _).mono ?_
  rintro e w' ⟨rfl, rfl⟩
  go_wp2
  go_ret2
  exact ⟨rfl, (Below.refl _ _).alloc (Nat.le_refl _) _⟩
theorem lay_nil (s t : ByteArray) (w : World) : Calls Try.prog 31 #[.pointer none, .string s, .string t] w fun e w' => e = .returned (.int .i64 2) ∧ w = w' := by
  go_enter Try.func31, Try.ntmps31
  go_wp2
  go_ret
  exact ⟨rfl, rfl⟩
theorem size_nil (s : ByteArray) (w : World) : Calls Try.prog 39 #[.pointer none, .string s] w fun e w' => e = .returned (.int .i64 (-1)) ∧ w = w' := by
  go_enter Try.func39, Try.ntmps39
  go_wp2_with fail
  refine (find_nil s w).mono ?_
  rintro e w' ⟨rfl, rfl⟩
  go_wp2
  go_ret
  exact ⟨rfl, rfl⟩
theorem safe_nil (s : ByteArray) (w : World) : Calls Try.prog 40 #[.pointer none, .string s] w fun e w' => e = .returned (.int .i64 0) ∧ w = w' := by
  go_enter Try.func40, Try.ntmps40
  go_wp2_with fail
  refine (find_nil s w).mono ?_
  rintro e w' ⟨rfl, rfl⟩
  go_wp2
  go_ret
  exact ⟨rfl, rfl⟩
theorem used_nil (w : World) : Calls Try.prog 33 #[.pointer none] w fun e w' => e = .returned (.int .i64 0) ∧ w = w' := by
  go_enter Try.func33, Try.ntmps33
  go_wp2
  go_ret
  exact ⟨rfl, rfl⟩
theorem flip_nil (s : ByteArray) (pos : Int) (b : Int) (w : World) : Calls Try.prog 29 #[.pointer none, .string s, .int .i64 pos, .int .u8 b] w fun e w' => e = .returned (.bool false) ∧ w = w' := by
  go_enter Try.func29, Try.ntmps29
  go_wp2_with fail
  refine (find_nil s w).mono ?_
  rintro e w' ⟨rfl, rfl⟩
  go_wp2
  go_ret
  exact ⟨rfl, rfl⟩
/-! ### sizes -/
theorem used_take {l : List Fi} {j : Nat} {f : Fi} (h : l[j]? = some f) : usedF (l.take (j + 1)) = usedF (l.take j) + f.bs.length := by
  have app : ∀ a b : List Fi, usedF (a ++ b) = usedF a + usedF b := by
    intro a b
    induction a with
    | nil => simp [usedF]
    | cons x r ih => simp [usedF, ih]; omega
  rw [List.take_add_one, h, app]
  simp [usedF]
theorem used_take_le (l : List Fi) (j : Nat) : usedF (l.take j) ≤ usedF l := by
  have app : ∀ a b : List Fi, usedF (a ++ b) = usedF a + usedF b := by
    intro a b
    induction a with
    | nil => simp [usedF]
    | cons x r ih => simp [usedF, ih]; omega
  have := app (l.take j) (l.drop j)
  rw [List.take_append_drop] at this
  omega
theorem up_at {l : List Fi} (h : Up l) {j : Nat} {f g : Fi} (hf : l[j]? = some f) (hg : l[j + 1]? = some g) : bytesBefore f.nm g.nm = true := by
  have hj := (List.getElem?_eq_some_iff.1 hg).1
  have := List.pairwise_iff_getElem.1 h j (j + 1) (by omega) hj (by omega)
  rw [(List.getElem?_eq_some_iff.1 hf).2, (List.getElem?_eq_some_iff.1 hg).2] at this
  exact this
theorem size_at {D : Dk} (h : Up D.L) {f : Fi} (hf : f ∈ D.L) : D.size f.nm = (f.bs.length : Int) ∧ D.bytes f.nm = f.bs ∧ D.safe f.nm = (f.sf : Int) := by
  unfold Dk.size Dk.bytes Dk.safe
  rw [get_mem h hf]
  exact ⟨rfl, rfl, rfl⟩
end Go.Proofs.Ytkhlcmponfkccaa.Pk
