/-
  An act: its fields in memory; 'great', and 'done': the operation that an act tells.
-/
import Derived.Test.YtkhlcmponfkccaaPkHas
namespace Go.Proofs.Ytkhlcmponfkccaa.Pk
open Go.RowKit Go.PlainAid Go.Maps
set_option linter.unusedVariables false
set_option linter.unusedSimpArgs false

/-- a call, as the law reads it; its numbers to keep stay a value -/
structure Ac where
  kind : Int
  name : ByteArray
  to : ByteArray
  s : ByteArray
  pos : Int
  n : Int
  b : Int
  kb : Option Addr
  kc : Nat
  ks : List Int
def Ac.cells (x : Ac) : Array Value := #[.int .i64 x.kind, .string x.name, .string x.to, .string x.s, .int .i64 x.pos, .int .i64 x.n, .int .i64 x.b, .slice x.kb x.ks.length x.kc]
structure Ac.Ok (x : Ac) : Prop where
  name : x.name.size ≤ 9223372036854775807
  to : x.to.size ≤ 9223372036854775807
  s : x.s.size ≤ 9223372036854775807
  pos : x.pos ≤ 9223372036854775807
  n : x.n ≤ 9223372036854775807
  b : x.b ≤ 9223372036854775807
def Ac.great (x : Ac) : Bool := decide (4096 < x.s.size) || decide (200 < x.name.size) || decide (200 < x.to.size) || decide (100 < x.ks.length)
theorem ret_bool {a b : Bool} (h : a = b) : Ending.returned (.bool a) = .returned (.bool b) := by rw [h]
set_option maxRecDepth 100000 in
set_option maxHeartbeats 1000000 in
theorem great_any (x : Ac) (w : World) : Calls Try.prog 10 #[.agg x.cells] w fun e w' => e = .returned (.bool x.great) ∧ Below w.heap.size w w' := by
  unfold Ac.cells Ac.great
  obtain ⟨kind, name, to, s, pos, n, b, kb, kc, ks⟩ := x
  simp only
  generalize ks.length = kn
  go_enter Try.func10, Try.ntmps10
  go_wp2
  all_goals
    go_ret
    refine ⟨ret_bool ?_, (Below.refl _ _).alloc (Nat.le_refl _) _⟩
  · have a1 : ¬ 4096 < s.size := by omega
    have a2 : ¬ 200 < name.size := by omega
    have a3 : ¬ 200 < to.size := by omega
    simp [a1, a2, a3, show ¬ (4096 : Int) < (s.size : Int) by omega, show ¬ (200 : Int) < (name.size : Int) by omega, show ¬ (200 : Int) < (to.size : Int) by omega, show ((100 : Int) < (kn : Int)) ↔ 100 < kn by omega]
  · have a1 : ¬ 4096 < s.size := by omega
    have a2 : ¬ 200 < name.size := by omega
    have a3 : 200 < to.size := by omega
    simp [a1, a2, a3]
  · have a1 : ¬ 4096 < s.size := by omega
    have a2 : 200 < name.size := by omega
    simp [a1, a2]
  · have a1 : 4096 < s.size := by omega
    simp [a1]
theorem Ac.small {x : Ac} (h : x.great = false) : x.s.size ≤ 4096 ∧ x.name.size ≤ 200 ∧ x.to.size ≤ 200 ∧ x.ks.length ≤ 100 := by
  unfold Ac.great at h
  simp only [Bool.or_eq_false_iff, decide_eq_false_iff_not] at h
  omega
def Dk.doneA (D : Dk) (x : Ac) : Int × Dk :=
  if x.kind = 2 then D.append (kl x.name) (kl x.s) else if x.kind = 3 then (D.read (kl x.name) x.pos x.n).2 else if x.kind = 4 then D.sync (kl x.name) else
  if x.kind = 5 then D.rename (kl x.name) (kl x.to) else if x.kind = 6 then D.delete (kl x.name) else D.create (kl x.name)
theorem done_append {D : Dk} {x : Ac} (h : x.kind = 2) : D.doneA x = D.append (kl x.name) (kl x.s) := by unfold Dk.doneA; rw [if_pos h]
theorem done_read {D : Dk} {x : Ac} (h : x.kind = 3) : D.doneA x = (D.read (kl x.name) x.pos x.n).2 := by unfold Dk.doneA; rw [if_neg (by omega), if_pos h]
theorem done_sync {D : Dk} {x : Ac} (h : x.kind = 4) : D.doneA x = D.sync (kl x.name) := by unfold Dk.doneA; rw [if_neg (by omega), if_neg (by omega), if_pos h]
theorem done_rename {D : Dk} {x : Ac} (h : x.kind = 5) : D.doneA x = D.rename (kl x.name) (kl x.to) := by unfold Dk.doneA; rw [if_neg (by omega), if_neg (by omega), if_neg (by omega), if_pos h]
theorem done_delete {D : Dk} {x : Ac} (h : x.kind = 6) : D.doneA x = D.delete (kl x.name) := by unfold Dk.doneA; rw [if_neg (by omega), if_neg (by omega), if_neg (by omega), if_neg (by omega), if_pos h]
theorem done_create {D : Dk} {x : Ac} (h2 : ¬ x.kind = 2) (h3 : ¬ x.kind = 3) (h4 : ¬ x.kind = 4) (h5 : ¬ x.kind = 5) (h6 : ¬ x.kind = 6) : D.doneA x = D.create (kl x.name) := by unfold Dk.doneA; rw [if_neg h2, if_neg h3, if_neg h4, if_neg h5, if_neg h6]
set_option maxRecDepth 100000 in
set_option maxHeartbeats 4000000 in
theorem done_any {w0 w : World} {p : Nat} {D : Dk} {X : List (Nat × Obj)} (h : HasD w0 w p D X) (ho : D.ops ≤ 1099511627776) (x : Ac) (hx : x.Ok) (hg : x.great = false) :
    Calls Try.prog 41 #[.pointer (some ⟨p, 0, none⟩), .agg x.cells] w fun e w' => e = .returned (.int .i64 (D.doneA x).1) ∧ HasD w0 w' p (D.doneA x).2 X := by
  obtain ⟨z1, z2, z3, z4⟩ := Ac.small hg
  have hA := h.alloc (.cells x.cells 30)
  by_cases hk : x.kind = 2
  · have B := has_append hA ho (s := x.name) (t := x.s) hx.name (by omega)
    rw [done_append hk]
    clear hA h
    generalize D.append (kl x.name) (kl x.s) = r at *
    unfold Ac.cells at B ⊢
    clear hx hg z1 z2 z3 z4
    rw [hk] at B ⊢
    go_enter Try.func41, Try.ntmps41
    go_wp2_with fail
    refine B.mono ?_
    rintro e w1 ⟨rfl, h1⟩
    clear B
    go_wp2
    go_ret
    exact ⟨rfl, h1⟩
  have n2 : (x.kind == 2) = false := by simpa using hk
  have k2 := hk
  clear hk
  by_cases hk : x.kind = 3
  · have B := has_read hA ho (s := x.name) hx.name x.pos x.n hx.pos hx.n
    rw [done_read hk]
    clear hA h
    generalize D.read (kl x.name) x.pos x.n = r at *
    unfold Ac.cells at B ⊢
    clear hx hg z1 z2 z3 z4
    rw [hk] at B ⊢
    go_enter Try.func41, Try.ntmps41
    go_wp2_with fail
    refine B.mono ?_
    rintro e w1 ⟨rfl, h1⟩
    clear B
    go_wp2
    go_ret
    exact ⟨rfl, h1⟩
  have n3 : (x.kind == 3) = false := by simpa using hk
  have k3 := hk
  clear hk
  by_cases hk : x.kind = 4
  · have B := has_sync hA ho (s := x.name) hx.name
    rw [done_sync hk]
    clear hA h
    generalize D.sync (kl x.name) = r at *
    unfold Ac.cells at B ⊢
    clear hx hg z1 z2 z3 z4
    rw [hk] at B ⊢
    go_enter Try.func41, Try.ntmps41
    go_wp2_with fail
    refine B.mono ?_
    rintro e w1 ⟨rfl, h1⟩
    clear B
    go_wp2
    go_ret
    exact ⟨rfl, h1⟩
  have n4 : (x.kind == 4) = false := by simpa using hk
  have k4 := hk
  clear hk
  by_cases hk : x.kind = 5
  · have B := has_rename hA ho (s := x.name) (t := x.to) hx.name hx.to
    rw [done_rename hk]
    clear hA h
    generalize D.rename (kl x.name) (kl x.to) = r at *
    unfold Ac.cells at B ⊢
    clear hx hg z1 z2 z3 z4
    rw [hk] at B ⊢
    go_enter Try.func41, Try.ntmps41
    go_wp2_with fail
    refine B.mono ?_
    rintro e w1 ⟨rfl, h1⟩
    clear B
    go_wp2
    go_ret
    exact ⟨rfl, h1⟩
  have n5 : (x.kind == 5) = false := by simpa using hk
  have k5 := hk
  clear hk
  by_cases hk : x.kind = 6
  · have B := has_delete hA ho (s := x.name) hx.name
    rw [done_delete hk]
    clear hA h
    generalize D.delete (kl x.name) = r at *
    unfold Ac.cells at B ⊢
    clear hx hg z1 z2 z3 z4
    rw [hk] at B ⊢
    go_enter Try.func41, Try.ntmps41
    go_wp2_with fail
    refine B.mono ?_
    rintro e w1 ⟨rfl, h1⟩
    clear B
    go_wp2
    go_ret
    exact ⟨rfl, h1⟩
  have n6 : (x.kind == 6) = false := by simpa using hk
  have k6 := hk
  clear hk
  have B := has_create hA ho (s := x.name) hx.name
  rw [done_create k2 k3 k4 k5 k6]
  clear hA h
  generalize D.create (kl x.name) = r at *
  unfold Ac.cells at B ⊢
  clear hx hg z1 z2 z3 z4
  go_enter Try.func41, Try.ntmps41
  go_wp2_with fail
  refine B.mono ?_
  rintro e w1 ⟨rfl, h1⟩
  clear B
  go_wp2
  go_ret
  exact ⟨rfl, h1⟩
end Go.Proofs.Ytkhlcmponfkccaa.Pk
