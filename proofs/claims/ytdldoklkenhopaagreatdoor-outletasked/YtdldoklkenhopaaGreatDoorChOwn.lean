/-
  Bodies that are read, side by side: what a call to one leaves of the others.
-/
import Derived.Test.YtdldoklkenhopaaGreatDoorChNew
import Derived.Test.YtdldoklkenhopaaGreatDoorChWr
namespace Go.Proofs.YtdldoklkenhopaaGreatDoor.Ch
open Go.RowKit Go.PlainAid
open Hx Fi
set_option linter.unusedVariables false
set_option maxRecDepth 20000
set_option linter.unusedSimpArgs false

structure Ob where
  p : Nat
  most : Nat
  s : CS
/-- since w0 nothing has turned but what is new; the bodies L stand apart from one another -/
structure Own (w0 w : World) (L : List Ob) : Prop where
  bel : Below w0.heap.size w0 w
  is : ∃ Zf : Nat → Nat → Prop, (∀ i o, L[i]? = some o → Of w o.p (Zf i) o.most o.s ∧ ∀ b, Zf i b → w0.heap.size ≤ b) ∧ ∀ i j, i < L.length → j < L.length → i ≠ j → ∀ b, Zf i b → ¬ Zf j b
def zset (Zf : Nat → Nat → Prop) (i : Nat) (Z : Nat → Prop) : Nat → Nat → Prop := fun j => if j = i then Z else Zf j
theorem zset_same (Zf : Nat → Nat → Prop) (i : Nat) (Z : Nat → Prop) : zset Zf i Z i = Z := if_pos rfl
theorem zset_other (Zf : Nat → Nat → Prop) {i j : Nat} (Z : Nat → Prop) (h : j ≠ i) : zset Zf i Z j = Zf j := if_neg h
section
variable {w0 w : World} {L : List Ob}
theorem Own.none (w : World) : Own w w [] := ⟨Below.refl _ _, fun _ _ => False, by simp, by simp⟩
theorem Own.below {w' : World} (h : Own w0 w L) (hb : Below w.heap.size w w') : Own w0 w' L := by
  obtain ⟨b, Zf, h1, h2⟩ := h
  exact ⟨b.trans (hb.mono b.size), Zf, fun i o hi => ⟨(h1 i o hi).1.old hb, (h1 i o hi).2⟩, h2⟩
theorem Own.call (h : Own w0 w L) (i : Nat) {o : Ob} (hi : L[i]? = some o) : ∃ Z, Of w o.p Z o.most o.s ∧ ∀ w' s', OfPost w w' o.p Z o.most s' → Own w0 w' (L.set i ⟨o.p, o.most, s'⟩) := by
  obtain ⟨b, Zf, h1, h2⟩ := h
  have hlt := (List.getElem?_eq_some_iff.1 hi).1
  refine ⟨Zf i, (h1 i o hi).1, fun w' s' ⟨Z', h3, g⟩ => ⟨g.below b b.size fun k hk => (h1 i o hi).2 k hk, zset Zf i Z', ?_, ?_⟩⟩
  · intro j q hj
    by_cases e : j = i
    · subst e
      rw [List.getElem?_set_self hlt] at hj
      obtain rfl := Option.some.inj hj
      rw [zset_same]
      refine ⟨h3, fun k hk => ?_⟩
      rcases g.sub k hk with x | x
      · exact (h1 j o hi).2 k x
      · exact Nat.le_trans b.size x
    · rw [List.getElem?_set_ne (Ne.symm e)] at hj
      rw [zset_other _ _ e]
      obtain ⟨a1, a2⟩ := h1 j q hj
      exact ⟨a1.moved g (h2 i j hlt (List.getElem?_eq_some_iff.1 hj).1 (Ne.symm e)), a2⟩
  · intro j k hj hk hne c hc hc2
    rw [List.length_set] at hj hk
    by_cases e : j = i
    · subst e
      rw [zset_same] at hc
      rw [zset_other _ _ (Ne.symm hne)] at hc2
      rcases g.sub c hc with x | x
      · exact h2 j k hj hk hne c x hc2
      · have := (h1 k _ (List.getElem?_eq_getElem hk)).1.lt c hc2
        omega
    · rw [zset_other _ _ e] at hc
      by_cases e2 : k = i
      · subst e2
        rw [zset_same] at hc2
        rcases g.sub c hc2 with x | x
        · exact h2 j k hj hk hne c hc x
        · have := (h1 j _ (List.getElem?_eq_getElem hj)).1.lt c hc
          omega
      · rw [zset_other _ _ e2] at hc2
        exact h2 j k hj hk hne c hc hc2
theorem Own.new {w' : World} (h : Own w0 w L) {p most : Nat} {s : CS} {Z : Nat → Prop} (hb : Below w.heap.size w w') (ho : Of w' p Z most s) (hz : ∀ b, Z b → w.heap.size ≤ b) : Own w0 w' (L ++ [⟨p, most, s⟩]) := by
  obtain ⟨b, Zf, h1, h2⟩ := h
  have lt : ∀ j, j < L.length → ∀ c, Zf j c → c < w.heap.size := fun j hj => (h1 j _ (List.getElem?_eq_getElem hj)).1.lt
  refine ⟨b.trans (hb.mono b.size), zset Zf L.length Z, ?_, ?_⟩
  · intro j q hj
    by_cases e : j = L.length
    · subst e
      rw [zset_same]
      rw [List.getElem?_append_right (Nat.le_refl _), Nat.sub_self] at hj
      obtain rfl := Option.some.inj hj
      exact ⟨ho, fun c hc => Nat.le_trans b.size (hz c hc)⟩
    · rw [zset_other _ _ e]
      have hlt : j < L.length := by
        have := (List.getElem?_eq_some_iff.1 hj).1
        rw [List.length_append, List.length_singleton] at this
        omega
      rw [List.getElem?_append_left hlt] at hj
      exact ⟨(h1 j q hj).1.old hb, (h1 j q hj).2⟩
  · intro j k hj hk hne c hc hc2
    rw [List.length_append, List.length_singleton] at hj hk
    by_cases e : j = L.length
    · subst e
      rw [zset_same] at hc
      rw [zset_other _ _ (by omega)] at hc2
      have := hz c hc
      have := lt k (by omega) c hc2
      omega
    · rw [zset_other _ _ e] at hc
      by_cases e2 : k = L.length
      · subst e2
        rw [zset_same] at hc2
        have := hz c hc2
        have := lt j (by omega) c hc
        omega
      · rw [zset_other _ _ e2] at hc2
        exact h2 j k (by omega) (by omega) hne c hc hc2
/-! ### the calls -/
theorem own_new (h : Own w0 w L) (m : Int) (h1 : -9223372036854775808 ≤ m) (h2 : m ≤ 9223372036854775807) :
    Calls Tryz.prog 59 #[.int .i64 m] w fun e w' => ∃ p, e = .returned (.pointer (some ⟨p, 0, none⟩)) ∧ Own w0 w' (L ++ [⟨p, m.toNat, init⟩]) :=
  (new_of m w h1 h2).mono fun e w' ⟨a, b, c⟩ => ⟨_, a, h.new b c fun k hk => by rw [hk]; exact Nat.le_refl _⟩
theorem own_add (h : Own w0 w L) (i : Nat) {p most : Nat} {s : CS} (hi : L[i]? = some ⟨p, most, s⟩) (ok : s.Ok most) (hm : (most : Int) ≤ 9223372036854775807) (t : ByteArray) (hz : t.size ≤ 549755813888) (hu : s.u.length + t.size ≤ 1099511627776) (hr : s.md.rest.length + t.size ≤ 1099511627776) :
    Calls Tryz.prog 40 #[.pointer (some ⟨p, 0, none⟩), .string t] w fun e w' => e = .returned (.int .i64 (run most s (ls t)).md.error) ∧ Own w0 w' (L.set i ⟨p, most, run most s (ls t)⟩) := by
  obtain ⟨Z, ho, hk⟩ := h.call i hi
  exact (add_of ho ok hm t hz hu hr).mono fun e w' ⟨a, b⟩ => ⟨a, hk w' _ b⟩
theorem own_take (h : Own w0 w L) (i : Nat) {p most : Nat} {s : CS} (hi : L[i]? = some ⟨p, most, s⟩) :
    Calls Tryz.prog 41 #[.pointer (some ⟨p, 0, none⟩)] w fun e w' => e = .returned (.string (tx s.u)) ∧ Own w0 w' (L.set i ⟨p, most, taken s⟩) := by
  obtain ⟨Z, ho, hk⟩ := h.call i hi
  exact (take_of ho).mono fun e w' ⟨a, b⟩ => ⟨a, hk w' _ b⟩
theorem own_done (h : Own w0 w L) (i : Nat) {p most : Nat} {s : CS} (hi : L[i]? = some ⟨p, most, s⟩) :
    Calls Tryz.prog 43 #[.pointer (some ⟨p, 0, none⟩)] w fun e w' => e = .returned (.bool s.md.isDone) ∧ w = w' := by
  obtain ⟨Z, ho, hk⟩ := h.call i hi
  exact done_of ho
theorem own_rest (h : Own w0 w L) (i : Nat) {p most : Nat} {s : CS} (hi : L[i]? = some ⟨p, most, s⟩) :
    Calls Tryz.prog 42 #[.pointer (some ⟨p, 0, none⟩)] w fun e w' => e = .returned (.string (tx s.md.rest)) ∧ w = w' := by
  obtain ⟨Z, ho, hk⟩ := h.call i hi
  exact rest_of ho
end
end Go.Proofs.YtdldoklkenhopaaGreatDoor.Ch
