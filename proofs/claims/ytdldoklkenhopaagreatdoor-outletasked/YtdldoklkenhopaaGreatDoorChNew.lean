/-
  Contracts of New, Take, Done, Rest, Size of package chunk, and of Add told of the machine alone.
-/
import Derived.Test.YtdldoklkenhopaaGreatDoorChAdd
namespace Go.Proofs.YtdldoklkenhopaaGreatDoor.Ch
open Go.RowKit Go.PlainAid
open Hx Fi
set_option linter.unusedVariables false
set_option maxRecDepth 20000
set_option linter.unusedSimpArgs false

/-- at p stands a body that is read, in the machine's state s; its blocks are Z -/
def Of (w : World) (p : Nat) (Z : Nat → Prop) (most : Nat) (s : CS) : Prop := ∃ c, Has w p Z c ∧ St most s c
theorem Of.lt {w : World} {p : Nat} {Z : Nat → Prop} {most : Nat} {s : CS} (h : Of w p Z most s) : ∀ b, Z b → b < w.heap.size := by
  obtain ⟨c, ⟨x, y, z, H⟩, _⟩ := h
  exact H.lt
theorem Of.old {w w' : World} {p : Nat} {Z : Nat → Prop} {most : Nat} {s : CS} (h : Of w p Z most s) (hb : Below w.heap.size w w') : Of w' p Z most s := by
  obtain ⟨c, ⟨x, y, z, H⟩, st⟩ := h
  exact ⟨c, ⟨x, y, z, H.old hb⟩, st⟩
theorem Of.moved {w w' : World} {p : Nat} {Z Y Y' : Nat → Prop} {most : Nat} {s : CS} (h : Of w p Z most s) (g : Goes w w' Y Y') (d : ∀ b, Y b → ¬ Z b) : Of w' p Z most s := by
  obtain ⟨c, ⟨x, y, z, H⟩, st⟩ := h
  exact ⟨c, ⟨x, y, z, H.moved g d⟩, st⟩
/-- what a call leaves -/
def OfPost (w w' : World) (p : Nat) (Z : Nat → Prop) (most : Nat) (s : CS) : Prop := ∃ Z', Of w' p Z' most s ∧ Goes w w' Z Z'
section
variable {w : World} {p : Nat} {Z : Nat → Prop} {most : Nat} {s : CS}
theorem add_of (h : Of w p Z most s) (ok : s.Ok most) (hm : (most : Int) ≤ 9223372036854775807) (t : ByteArray) (hz : t.size ≤ 549755813888) (hu : s.u.length + t.size ≤ 1099511627776) (hr : s.md.rest.length + t.size ≤ 1099511627776) :
    Calls Tryz.prog 40 #[.pointer (some ⟨p, 0, none⟩), .string t] w fun e w' => e = .returned (.int .i64 (run most s (ls t)).md.error) ∧ OfPost w w' p Z most (run most s (ls t)) := by
  obtain ⟨c, H, st⟩ := h
  exact (add_any H st ok hm t hz hu hr).mono fun e w' ⟨h1, c1, Z1, H1, G1, st1⟩ => ⟨h1, Z1, ⟨c1, H1, st1⟩, G1⟩
def taken (s : CS) : CS := ⟨s.md, s.n, []⟩
theorem take_of (h : Of w p Z most s) :
    Calls Tryz.prog 41 #[.pointer (some ⟨p, 0, none⟩)] w fun e w' => e = .returned (.string (tx s.u)) ∧ OfPost w w' p Z most (taken s) := by
  obtain ⟨c, ⟨x, y, z, H⟩, st⟩ := h
  obtain ⟨nx, ms, cn, due, part, data, fs, rest, wv⟩ := c
  have hu : data = s.u := st.u
  subst hu
  have cv := H.py.text
  obtain ⟨oy, ky, ey, _, _⟩ := H.py.form
  simp only at cv ey
  generalize tx s.u = T at cv ⊢
  generalize s.u.length = m at ey
  subst ey
  have d5 := H.c5
  have f5 := H.fz 5
  obtain ⟨H2, G2⟩ := H.takeY
  have st2 : St most (taken s) ⟨nx, ms, cn, due, part, [], fs, rest, wv⟩ := by
    refine ⟨st.n, st.m, rfl, ?_⟩
    have a := st.at_
    show MdAt s.md _
    cases hm : s.md <;> rw [hm] at a <;> exact a
  go_enter Tryz.func41, Tryz.ntmps41
  go_wp2
  go_ret
  exact ⟨rfl, _, ⟨_, ⟨_, _, _, H2⟩, st2⟩, G2⟩
theorem done_of (h : Of w p Z most s) :
    Calls Tryz.prog 43 #[.pointer (some ⟨p, 0, none⟩)] w fun e w' => e = .returned (.bool s.md.isDone) ∧ w = w' := by
  obtain ⟨c, ⟨x, y, z, H⟩, st⟩ := h
  have d0 := H.c0
  have e := st.done
  generalize s.md.isDone = v at *
  generalize c.nx = n at *
  clear H st
  cases v with
  | true =>
    go_enter Tryz.func43, Tryz.ntmps43
    go_wp2
    go_ret
    exact ⟨rfl, rfl⟩
  | false =>
    go_enter Tryz.func43, Tryz.ntmps43
    go_wp2
    go_ret
    exact ⟨rfl, rfl⟩
theorem rest_of (h : Of w p Z most s) :
    Calls Tryz.prog 42 #[.pointer (some ⟨p, 0, none⟩)] w fun e w' => e = .returned (.string (tx s.md.rest)) ∧ w = w' := by
  obtain ⟨c, ⟨x, y, z, H⟩, st⟩ := h
  have hr := st.rest
  have cv := H.pz.text
  rw [hr] at cv
  obtain ⟨oz, kz, ez, _, _⟩ := H.pz.form
  generalize tx s.md.rest = T at cv ⊢
  generalize c.rest.length = m at ez
  subst ez
  have d7 := H.c7
  clear H st hr
  go_enter Tryz.func42, Tryz.ntmps42
  go_wp2
  go_ret
  exact ⟨rfl, rfl⟩
end
theorem take_nil (w : World) : Calls Tryz.prog 41 #[.pointer none] w fun e w' => e = .returned (.string ⟨#[]⟩) ∧ w = w' := by
  go_enter Tryz.func41, Tryz.ntmps41
  go_wp2
  go_ret
  exact ⟨rfl, rfl⟩
theorem rest_nil (w : World) : Calls Tryz.prog 42 #[.pointer none] w fun e w' => e = .returned (.string ⟨#[]⟩) ∧ w = w' := by
  go_enter Tryz.func42, Tryz.ntmps42
  go_wp2
  go_ret
  exact ⟨rfl, rfl⟩
theorem done_nil (w : World) : Calls Tryz.prog 43 #[.pointer none] w fun e w' => e = .returned (.bool false) ∧ w = w' := by
  go_enter Tryz.func43, Tryz.ntmps43
  go_wp2
  go_ret
  exact ⟨rfl, rfl⟩
/-- New: a body of at most so many bytes, below 0 as 0 -/
theorem new_of (m : Int) (w : World) (h1 : -9223372036854775808 ≤ m) (h2 : m ≤ 9223372036854775807) :
    Calls Tryz.prog 59 #[.int .i64 m] w fun e w' => e = .returned (.pointer (some ⟨w.heap.size, 0, none⟩)) ∧ Below w.heap.size w w' ∧ Of w' w.heap.size (fun b => b = w.heap.size) m.toNat init := by
  have key : ∀ v : Int, v = (m.toNat : Int) → Of (w.alloc (.cells (cV 0 v 0 0 (.slice none 0 0) (.slice none 0 0) 0 (.slice none 0 0) 0) 98)) w.heap.size (fun b => b = w.heap.size) m.toNat init := by
    intro v hv
    refine ⟨⟨0, v, 0, 0, [], [], 0, [], 0⟩, ⟨.slice none 0 0, .slice none 0 0, .slice none 0 0, ?_⟩, rfl, hv, rfl, rfl, rfl, by decide, rfl, rfl, rfl⟩
    exact ⟨At.new w _ _, Row.nil _, Row.nil _, Row.nil _, fun b hb => by simp [Value.ownBlock] at hb, fun b hb => by simp [Value.ownBlock] at hb, fun b hb => by simp [Value.ownBlock] at hb, rfl, fun b hb => by simp [Value.ownBlock] at hb, fun b hb => by simp [Value.ownBlock] at hb, fun b hb => by simp [Value.ownBlock] at hb, fun b hb => by simp; omega⟩
  have B : ∀ o, Below w.heap.size w (w.alloc o) := fun o => (Below.refl _ _).alloc (Nat.le_refl _) _
  by_cases c : m < 0
  · have k := Lib.hid (key 0 (by omega))
    clear key
    go_enter Tryz.func59, Tryz.ntmps59
    go_wp2
    go_ret
    exact ⟨rfl, B _, k.out⟩
  · have k := Lib.hid (key m (by omega))
    clear key
    go_enter Tryz.func59, Tryz.ntmps59
    go_wp2
    go_ret
    exact ⟨rfl, B _, k.out⟩
end Go.Proofs.YtdldoklkenhopaaGreatDoor.Ch
