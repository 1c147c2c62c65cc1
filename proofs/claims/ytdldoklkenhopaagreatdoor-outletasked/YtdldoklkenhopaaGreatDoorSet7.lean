/-
  Contract of awake of the laws: the answers that the document fixes by number are as it says.
  What the laws share: the box of the two texts, fields that are short so far.
-/
import Derived.Test.YtdldoklkenhopaaGreatDoorSet6
section
namespace Go.Proofs.YtdldoklkenhopaaGreatDoor.Ou
open Go.RowKit Go.PlainAid
open Hx Fi Ch In
set_option linter.unusedVariables false
set_option maxRecDepth 20000
set_option linter.unusedSimpArgs false

def fAb : Fi.Fd := ⟨⟨#[65]⟩, ⟨#[98]⟩⟩
theorem exE : ansE 200 [fAb] = 0 := by decide +kernel
theorem exS : ansS 200 [fAb] = ⟨#[72, 84, 84, 80, 47, 49, 46, 49, 32, 50, 48, 48, 32, 79, 75, 13, 10, 65, 58, 32, 98, 13, 10, 13, 10]⟩ := by decide +kernel
theorem exE2 : askE (ls ⟨#[71, 69, 84]⟩) (ls ⟨#[47, 118, 50, 47]⟩) [] = 0 := by decide +kernel
theorem exS2 : askS (ls ⟨#[71, 69, 84]⟩) (ls ⟨#[47, 118, 50, 47]⟩) [] = ⟨#[71, 69, 84, 32, 47, 118, 50, 47, 32, 72, 84, 84, 80, 47, 49, 46, 49, 13, 10, 13, 10]⟩ := by decide +kernel
theorem exE3 : askE (ls ⟨#[71, 69, 84]⟩) (ls ⟨#[47, 97, 32, 98]⟩) [] = 1 := by decide +kernel
theorem exS3 : askS (ls ⟨#[71, 69, 84]⟩) (ls ⟨#[47, 97, 32, 98]⟩) [] = ⟨#[]⟩ := by decide +kernel
theorem one_at (w : World) (f : Fi.Fd) : FdsAt (w.alloc (.cells (fdV f) 26)) (.slice (some ⟨w.heap.size, 0, none⟩) 1 1) [f] := by
  refine ⟨_, 1, rfl, Nat.le_refl _, fun j x hj => ⟨_, rfl, by simp, fun i c hi => ?_⟩⟩
  have hj0 : j = 0 := by
    have := (List.getElem?_eq_some_iff.1 hj).1
    simp at this; exact this
  subst hj0
  obtain rfl : f = x := by simpa using hj
  exact new_fd w f i c hi
theorem reach_none : Fi.Reach [] := by intro x hx; cases hx
theorem reach_ab : Fi.Reach [fAb] := by
  intro x hx
  simp only [List.mem_singleton] at hx
  subst hx
  exact ⟨by decide, by decide⟩
theorem eq_self (b : ByteArray) : (b.toList == b.toList) = true := by simp
set_option maxHeartbeats 4000000 in
theorem awake_any (w : World) : Calls Tryz.prog 4 #[] w fun e w' => e = .returned (.bool true) ∧ Below w.heap.size w w' := by
  have a1 := answer_any 200 (one_at w fAb) (by decide) reach_ab
  rw [exE, exS] at a1
  have a2 := fun w => ask_any (w := w) ⟨#[71, 69, 84]⟩ ⟨#[47, 118, 50, 47]⟩ (none_fds w) (by decide) (by decide) (by decide) reach_none
  have a3 := fun w => ask_any (w := w) ⟨#[71, 69, 84]⟩ ⟨#[47, 97, 32, 98]⟩ (none_fds w) (by decide) (by decide) (by decide) reach_none
  simp only [exE2, exS2] at a2
  simp only [exE3, exS3] at a3
  have b1 := fun w => bodyless_any 304 false w
  have b2 := fun w => bodyless_any 200 false w
  rw [show boF 304 false = true by decide] at b1
  rw [show boF 200 false = false by decide] at b2
  have B0 : Below w.heap.size w (w.alloc (.cells (fdV fAb) 26)) := (Below.refl _ _).alloc (Nat.le_refl _) _
  go_enter Tryz.func4, Tryz.ntmps4
  go_wp2_with (refine wpl_build (fdV_size fAb) rfl rfl rfl ?_)
  generalize w.alloc (.cells (fdV fAb) 26) = w1 at a1 B0 ⊢
  go_wp2_with fail
  refine a1.mono ?_
  rintro e w2 ⟨rfl, F2⟩
  replace B0 := B0.trans (F2.mono B0.size)
  clear a1 F2
  go_wp2_with fail
  refine (a2 _).mono ?_
  rintro e w3 ⟨rfl, F3⟩
  replace B0 := B0.trans (F3.mono B0.size)
  clear a2 F3
  go_wp2_with fail
  refine (a3 _).mono ?_
  rintro e w4 ⟨rfl, F4⟩
  replace B0 := B0.trans (F4.mono B0.size)
  clear a3 F4
  go_wp2_with fail
  refine (b1 _).mono ?_
  rintro e w5 ⟨rfl, rfl⟩
  clear b1
  go_wp2_with fail
  refine (b2 _).mono ?_
  rintro e w6 ⟨rfl, rfl⟩
  clear b2
  go_wp2
  go_ret
  exact ⟨rfl, B0⟩
end Go.Proofs.YtdldoklkenhopaaGreatDoor.Ou
end

section
namespace Go.Proofs.YtdldoklkenhopaaGreatDoor.Ou
open Go.RowKit Go.PlainAid
open Hx Fi Ch In
set_option linter.unusedVariables false
set_option maxRecDepth 20000
set_option linter.unusedSimpArgs false

theorem nxt (a : Addr) (k : Nat) : ({ (a.add (k * 2)) with off := (a.add (k * 2)).off + 1, spot := none } : Addr) = a.add (k * 2 + 1) := by
  simp only [Addr.add]; split <;> simp_all <;> omega
structure OuJ (w0 z : World) (B : Nat) (p q : ByteArray) : Prop where
  a : At z B 22 #[.string p, .string q]
  bel : Below w0.heap.size w0 z
theorem OuJ.below {w0 z y : World} {B : Nat} {p q : ByteArray} (i : OuJ w0 z B p q) (hb : Below z.heap.size z y) : OuJ w0 y B p q := ⟨i.a.old hb, i.bel.trans (hb.mono i.bel.size)⟩
theorem OuJ.drew {w0 z : World} {B : Nat} {p q : ByteArray} (i : OuJ w0 z B p q) : OuJ w0 z.drew B p q := i.below ((Below.refl _ _).drew)
theorem OuJ.c0 {w0 z : World} {B : Nat} {p q : ByteArray} (i : OuJ w0 z B p q) : z.cell? ⟨B, 0, none⟩ = some (.string p) := i.a.cell 0
theorem OuJ.c1 {w0 z : World} {B : Nat} {p q : ByteArray} (i : OuJ w0 z B p q) : z.cell? ⟨B, 1, none⟩ = some (.string q) := i.a.cell 1
theorem OuJ.new (w : World) (p q : ByteArray) : OuJ w (w.alloc (.cells #[.string p, .string q] 22)) w.heap.size p q := ⟨At.new w _ _, (Below.refl _ _).alloc (Nat.le_refl _) _⟩
def ShTo (xs : List Fi.Fd) (k : Nat) : Prop := ∀ x ∈ xs.take k, x.n.size ≤ 8192 ∧ x.v.size ≤ 8192
theorem ShTo.succ {xs : List Fi.Fd} {k : Nat} {x : Fi.Fd} (h : ShTo xs k) (hx : xs[k]? = some x) (h1 : x.n.size ≤ 8192) (h2 : x.v.size ≤ 8192) : ShTo xs (k + 1) := by
  intro y hy
  rw [List.take_add_one, hx] at hy
  rcases List.mem_append.1 hy with hy | hy
  · exact h y hy
  · simp at hy; subst hy; exact ⟨h1, h2⟩
theorem ShTo.all {xs : List Fi.Fd} {k : Nat} (h : ShTo xs k) (hk : xs.length ≤ k) : ∀ x ∈ xs, x.n.size ≤ 8192 ∧ x.v.size ≤ 8192 :=
  fun x hx => h x (by rw [List.take_of_length_le hk]; exact hx)
end Go.Proofs.YtdldoklkenhopaaGreatDoor.Ou
end
