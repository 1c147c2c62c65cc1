/-
  Inlets, requests and boxes as things; what the calls of package inlet make of them.
-/
import Derived.Test.YtdldoklkenhopaaGreatDoorInThing
namespace Go.Proofs.YtdldoklkenhopaaGreatDoor.In
open Go.RowKit Go.PlainAid
open Hx Fi Ch
set_option linter.unusedVariables false
set_option maxRecDepth 20000
set_option linter.unusedSimpArgs false

/-- an inlet at p whose unread bytes are l, wrong with st (0: nothing) -/
def inT (p : Nat) (l : List UInt8) (st : Int) : Thing :=
  ⟨fun w Z => ∃ c, Has w p Z c ∧ IsAt c l st, fun _ _ _ ⟨c, h, i⟩ hs hb => ⟨c, h.kept hs hb, i⟩, fun _ _ ⟨_, h, _⟩ b hb => h.lt b hb⟩
/-- the fields of a request that was handed out -/
def rqT (q : Rq) (fv : Value) : Thing :=
  ⟨fun w Z => FdsAt w fv q.fs ∧ ∀ b, Z b ↔ FB fv q.fs b, fun _ _ _ ⟨h, e⟩ hs hb => ⟨fds_kept h hs fun b x => hb b ((e b).2 x), e⟩, fun _ _ ⟨h, e⟩ b hb => fds_lt h ((e b).1 hb)⟩
/-- a request in a variable -/
def xT (B : Nat) (q : Rq) (fv : Value) : Thing :=
  ⟨fun w Z => At w B 36 (rqV q fv) ∧ FdsAt w fv q.fs ∧ ¬ FB fv q.fs B ∧ ∀ b, Z b ↔ (b = B ∨ FB fv q.fs b),
   fun _ _ _ ⟨a, h, n, e⟩ hs hb => ⟨a.same (hb B ((e B).2 (.inl rfl))), fds_kept h hs fun b x => hb b ((e b).2 (.inr x)), n, e⟩,
   fun _ _ ⟨a, h, _, e⟩ b hb => by
    rcases (e b).1 hb with x | x
    · rw [x]; exact a.lt
    · exact fds_lt h x⟩
theorem rqV_zero : rqV q0 (.slice none 0 0) = zR := rfl
section
variable {w0 w : World} {Z0 : Nat → Prop} {L : List Thing}
theorem own_new (h : Owns w0 Z0 w L) (i : Nat) (hi : L[i]? = some noT) :
    Calls Tryz.prog 7 #[] w fun e w' => ∃ p, e = .returned (.pointer (some ⟨p, 0, none⟩)) ∧ Owns w0 Z0 w' (L.set i (inT p [] 0)) := by
  obtain ⟨Z, _, k⟩ := h.one i hi
  refine (new_any w).mono fun e w' ⟨a, b, x⟩ => ⟨_, a, k w' (inT _ [] 0) _ ⟨c0, x, c0_is⟩ ?_⟩
  exact ⟨b.os, b.tape, b.output, b.size, fun j hj _ => b.block j hj, fun j hj => .inr (by rw [hj]; exact Nat.le_refl _)⟩
theorem own_add (h : Owns w0 Z0 w L) (i : Nat) {p : Nat} {l : List UInt8} (hi : L[i]? = some (inT p l 0)) (s : ByteArray) (hs : l.length + s.size ≤ 16384) :
    Calls Tryz.prog 8 #[.pointer (some ⟨p, 0, none⟩), .string s] w fun e w' => e = .returned (.int .i64 0) ∧ Owns w0 Z0 w' (L.set i (inT p (l ++ ls s) 0)) := by
  obtain ⟨Z, ⟨c, hc, is⟩, k⟩ := h.one i hi
  have := is.left
  refine (add_ok hc s is.wr (by omega)).mono fun e w' ⟨a, Z', h2, g⟩ => ⟨a, k w' (inT p (l ++ ls s) 0) Z' ⟨_, h2, is.more (ls s)⟩ g⟩
theorem own_add_bad (h : Owns w0 Z0 w L) (i : Nat) {p : Nat} {l : List UInt8} {st : Int} (hi : L[i]? = some (inT p l st)) (hst : st ≠ 0) (s : ByteArray) :
    Calls Tryz.prog 8 #[.pointer (some ⟨p, 0, none⟩), .string s] w fun e w' => e = .returned (.int .i64 8) ∧ w = w' := by
  obtain ⟨Z, ⟨c, hc, is⟩, k⟩ := h.one i hi
  exact add_state hc s (by rw [is.wr]; exact hst)
theorem own_left (h : Owns w0 Z0 w L) (i : Nat) {p : Nat} {l : List UInt8} {st : Int} (hi : L[i]? = some (inT p l st)) (hl : l.length ≤ 1048576) :
    Calls Tryz.prog 56 #[.pointer (some ⟨p, 0, none⟩)] w fun e w' => e = .returned (.int .i64 (l.length : Int)) ∧ Owns w0 Z0 w' L := by
  obtain ⟨Z, ⟨c, hc, is⟩, k⟩ := h.one i hi
  have := is.left
  exact (left_any hc this.1 this.2 hl).mono fun e w' ⟨a, b⟩ => ⟨a, h.below b⟩
theorem own_none (h : Owns w0 Z0 w L) (i : Nat) {p : Nat} {l : List UInt8} (hi : L[i]? = some (inT p l 0)) (hl : l.length ≤ 524288) (hr : rdF l = .more) :
    Calls Tryz.prog 9 #[.pointer (some ⟨p, 0, none⟩)] w fun e w' => e = .returned (.tuple #[.agg zR, .int .i64 0]) ∧ Owns w0 Z0 w' (L.set i (inT p l 0)) := by
  obtain ⟨Z, ⟨c, hc, is⟩, k⟩ := h.one i hi
  refine (next_go hc is hl).mono fun e w' hp => ?_
  rcases hp with ⟨st, c', hq, a, ⟨Z', h2, g⟩, is2⟩ | ⟨q, n, fv, c', hq, _⟩
  · rcases hq with ⟨rfl, _⟩ | hq
    · exact ⟨a, k w' (inT p l 0) Z' ⟨c', h2, is2⟩ g⟩
    · rw [hr] at hq; cases hq
  · rw [hr] at hq; cases hq
theorem own_bad (h : Owns w0 Z0 w L) (i : Nat) {p : Nat} {l : List UInt8} {st : Int} (hi : L[i]? = some (inT p l 0)) (hl : l.length ≤ 524288) (hr : rdF l = .bad st) :
    Calls Tryz.prog 9 #[.pointer (some ⟨p, 0, none⟩)] w fun e w' => e = .returned (.tuple #[.agg zR, .int .i64 st]) ∧ Owns w0 Z0 w' (L.set i (inT p l st)) := by
  obtain ⟨Z, ⟨c, hc, is⟩, k⟩ := h.one i hi
  refine (next_go hc is hl).mono fun e w' hp => ?_
  rcases hp with ⟨st', c', hq, a, ⟨Z', h2, g⟩, is2⟩ | ⟨q, n, fv, c', hq, _⟩
  · rcases hq with ⟨_, hq⟩ | hq
    · rw [hr] at hq; cases hq
    · rw [hr] at hq
      injection hq with hq
      subst hq
      exact ⟨a, k w' (inT p l st) Z' ⟨c', h2, is2⟩ g⟩
  · rw [hr] at hq; cases hq
theorem own_again (h : Owns w0 Z0 w L) (i : Nat) {p : Nat} {l : List UInt8} {st : Int} (hi : L[i]? = some (inT p l st)) (hst : st ≠ 0) :
    Calls Tryz.prog 9 #[.pointer (some ⟨p, 0, none⟩)] w fun e w' => e = .returned (.tuple #[.agg zR, .int .i64 st]) ∧ Owns w0 Z0 w' (L.set i (inT p l st)) := by
  obtain ⟨Z, ⟨c, hc, is⟩, k⟩ := h.one i hi
  have hw := is.wr
  refine (next_wrong hc (by rw [hw]; exact hst)).mono fun e w' ⟨a, Z', h2, g⟩ => ⟨by rw [hw] at a; exact a, k w' (inT p l st) Z' ⟨c, h2, is⟩ g⟩
theorem own_ok (h : Owns w0 Z0 w L) (i j : Nat) (hij : i ≠ j) {p : Nat} {l : List UInt8} {q : Rq} {n : Nat} (hi : L[i]? = some (inT p l 0)) (hj : L[j]? = some noT) (hl : l.length ≤ 524288) (hr : rdF l = .ok q n) :
    Calls Tryz.prog 9 #[.pointer (some ⟨p, 0, none⟩)] w fun e w' => ∃ fv, e = .returned (.tuple #[.agg (rqV q fv), .int .i64 200]) ∧ (∃ o m k, fv = .slice o m k) ∧ Owns w0 Z0 w' ((L.set i (inT p (l.drop n) 0)).set j (rqT q fv)) := by
  obtain ⟨Z, Y, ⟨c, hc, is⟩, hY, hd, k⟩ := h.two i j hij hi hj
  refine (next_go hc is hl).mono fun e w' hp => ?_
  rcases hp with ⟨st', c', hq, _⟩ | ⟨q', n', fv, c', hq, a, is2, hf, Z', h2, g, f2, d2⟩
  · rcases hq with ⟨_, hq⟩ | hq <;> (rw [hr] at hq; cases hq)
  · rw [hr] at hq
    injection hq with e1 e2
    subst e1 e2
    refine ⟨fv, a, hf, k w' (inT p (l.drop n) 0) (rqT q fv) Z' (FB fv q.fs) ⟨c', h2, is2⟩ ⟨f2, fun b => Iff.rfl⟩ (fun b x y => (d2 b y).1 x) ⟨g.os, g.tape, g.output, g.size, fun b x y => g.block b x fun z => y (.inl z), ?_⟩⟩
    rintro b (x | x)
    · rcases g.sub b x with y | y
      · exact .inl (.inl y)
      · exact .inr y
    · rcases (d2 b x).2 with y | y
      · exact .inl (.inl y)
      · exact .inr y
/-- a request that was handed out is laid into a variable -/
theorem own_box (h : Owns w0 Z0 w L) (j : Nat) {q : Rq} {fv : Value} (hj : L[j]? = some (rqT q fv)) (hf : ∃ o m k, fv = .slice o m k) :
    ∃ w', Stores Tryz.prog (w.alloc (.cells zR 36)) 36 w.heap.size 0 (rqV q fv) w' ∧ Owns w0 Z0 w' (L.set j (xT w.heap.size q fv)) := by
  obtain ⟨Z, ⟨hv, hZ⟩, k⟩ := h.one j hj
  obtain ⟨w', S, A, B, hz⟩ := keep (P := Tryz.prog) (ty := 36) w zR (rqV q fv) 36 (by rw [rqV_size]; kernel_rfl) rfl (rq_one hf)
  refine ⟨w', S, k w' (xT w.heap.size q fv) (fun b => b = w.heap.size ∨ FB fv q.fs b) ⟨A, hv.below B, fun x => by have := fds_lt hv x; omega, fun b => Iff.rfl⟩ ⟨B.os, B.tape, B.output, B.size, fun b x _ => B.block b x, ?_⟩⟩
  rintro b (x | x)
  · exact .inr (by omega)
  · exact .inl ((hZ b).2 x)
/-- no request is laid into a variable -/
theorem own_zero (h : Owns w0 Z0 w L) (j : Nat) (hj : L[j]? = some noT) :
    ∃ w', Stores Tryz.prog (w.alloc (.cells zR 36)) 36 w.heap.size 0 zR w' ∧ Owns w0 Z0 w' (L.set j (xT w.heap.size q0 (.slice none 0 0))) := by
  obtain ⟨Z, hZ, k⟩ := h.one j hj
  obtain ⟨w', S, A, B, hz⟩ := keep (P := Tryz.prog) (ty := 36) w zR (rqV q0 (.slice none 0 0)) 36 (by rw [rqV_size]; kernel_rfl) rfl (rq_one ⟨_, _, _, rfl⟩)
  refine ⟨w', S, k w' (xT w.heap.size q0 (.slice none 0 0)) (fun b => b = w.heap.size ∨ FB (.slice none 0 0) q0.fs b) ⟨A, none_fds _, FB.nil _ _, fun b => Iff.rfl⟩ ⟨B.os, B.tape, B.output, B.size, fun b x _ => B.block b x, ?_⟩⟩
  rintro b (x | x)
  · exact .inr (by omega)
  · exact absurd x (FB.nil _ _)
/-- a variable is read -/
theorem own_x (h : Owns w0 Z0 w L) (j : Nat) {B : Nat} {q : Rq} {fv : Value} (hj : L[j]? = some (xT B q fv)) : At w B 36 (rqV q fv) ∧ FdsAt w fv q.fs := by
  obtain ⟨Z, ⟨a, f, _⟩, k⟩ := h.one j hj
  exact ⟨a, f⟩
/-- a thing is let go -/
theorem own_drop (h : Owns w0 Z0 w L) (j : Nat) {T : Thing} (hj : L[j]? = some T) : Owns w0 Z0 w (L.set j noT) := by
  obtain ⟨Z, _, k⟩ := h.one j hj
  exact k w noT (fun _ => False) (fun b x => x) ⟨rfl, rfl, rfl, Nat.le_refl _, fun _ _ _ => rfl, fun b x => x.elim⟩
end
end Go.Proofs.YtdldoklkenhopaaGreatDoor.In
