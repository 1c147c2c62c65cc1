/-
  The log in memory beside its disk; slips that lie beside them stay.
-/
import Derived.Test.YtdmgobffhpgjlaaGreatDgMath
namespace Go.Proofs.YtdmgobffhpgjlaaGreat.Sl.Dg
open Go.RowKit Go.PlainAid Go.Proofs.YtdmgobffhpgjlaaGreat.Cr
open Go.Proofs.YtdmgobffhpgjlaaGreat.Pk (Bs Fi Dk kl HasD zone DiskAt Post Gs)
set_option linter.unusedVariables false
set_option maxRecDepth 20000
set_option linter.unusedSimpArgs false

def lgV (p : Nat) (L : Lg) : Array Value := #[.pointer (some ⟨p, 0, none⟩), .int .i64 L.n, .int .i64 L.b, .int .i64 L.s, .bool L.k]
def dob (p : Nat) (L : Lg) : Obj := .cells (lgV p L) 82 (0, 0)
/-- what lies in a disk's zone -/
theorem zone_type {w : World} {p m : Nat} {G : Gs} {D : Dk} (h : DiskAt w p m G D) {b : Nat} {c : Array Value} {T : TypeId} {fr : Nat × Nat} (hb : w.heap[b]? = some (.cells c T fr)) (h1 : T ≠ 74) (h2 : T ≠ 89) (h3 : T ≠ 5) : ¬ zone p m G D.L b := by
  rintro (rfl | rfl | ⟨f, hf, rfl | hr⟩)
  · have e := h.head.symm.trans hb
    injection e with e
    injection e with _ e
    exact h1 e.symm
  · obtain ⟨es, clock, hm⟩ := Pk.map_block h.map
    have e := hm.symm.trans hb
    injection e with e
    cases e
  · have e := (h.file f hf).st.symm.trans hb
    injection e with e
    injection e with _ e
    exact h2 e.symm
  · obtain ⟨cur, fr', hc⟩ := Pk.row_block (h.file f hf).row hr
    have e := hc.symm.trans hb
    injection e with e
    injection e with _ e
    exact h3 e.symm
/-- the law's own disk, and its log; X: blocks of the law's own beside them -/
structure HasL (w0 w : World) (p q : Nat) (D : Dk) (L : Lg) (X : List (Nat × Obj)) : Prop where
  d : HasD w0 w p D ((q, dob p L) :: X)
  hq : w0.heap.size ≤ q
  hx : ∀ y ∈ X, y.1 ≠ q
section
variable {w0 w w' : World} {p q : Nat} {D D' : Dk} {L L' : Lg} {X : List (Nat × Obj)}
theorem HasL.at (h : HasL w0 w p q D L X) : At w q 82 (lgV p L) := ⟨h.d.at (List.mem_cons_self ..)⟩
theorem HasL.lt (h : HasL w0 w p q D L X) : q < w.heap.size := h.at.lt
theorem HasL.below (h : HasL w0 w p q D L X) : Below w0.heap.size w0 w := h.d.below
theorem HasL.ok (h : HasL w0 w p q D L X) : D.Ok := h.d.ok
theorem HasL.kept (h : HasL w0 w p q D L X) (hb : Below w.heap.size w w') : HasL w0 w' p q D L X := ⟨h.d.kept hb, h.hq, h.hx⟩
theorem HasL.drew (h : HasL w0 w p q D L X) : HasL w0 w.drew p q D L X := h.kept (Below.refl _ _).drew
theorem HasL.drewN (h : HasL w0 w p q D L X) (n : Nat) : HasL w0 (w.drewN n) p q D L X := ⟨h.d.drewN n, h.hq, h.hx⟩
theorem HasL.alloc (h : HasL w0 w p q D L X) (o : Obj) : HasL w0 (w.alloc o) p q D L X := ⟨h.d.alloc o, h.hq, h.hx⟩
theorem HasL.disk (h : HasL w0 w p q D L X) : HasD w0 w p D X := h.d.less fun x hx => List.mem_cons_of_mem _ hx
theorem HasL.less (h : HasL w0 w p q D L X) {Y : List (Nat × Obj)} (hY : ∀ x ∈ Y, x ∈ X) : HasL w0 w p q D L Y :=
  ⟨h.d.less fun x hx => by
    rcases List.mem_cons.1 hx with rfl | hx
    · exact List.mem_cons_self ..
    · exact List.mem_cons_of_mem _ (hY x hx), h.hq, fun y hy => h.hx y (hY y hy)⟩
/-- the log's own struct has turned, nothing else -/
theorem HasL.turn (h : HasL w0 w p q D L X) (hq : w'.heap[q]? = some (dob p L')) (hs : ∀ b, b ≠ q → w'.heap[b]? = w.heap[b]?) (ho : w'.os = w.os) (ht : w'.tape = w.tape) (hu : w'.output = w.output) (hz : w'.heap.size = w.heap.size) : HasL w0 w' p q D L' X := by
  obtain ⟨m, G, hd, z, hX⟩ := h.d.is
  have nq := (hX _ (List.mem_cons_self ..)).2
  refine ⟨⟨⟨m, G, hd.kept fun b hb => hs b fun e => nq (e ▸ hb), z, fun x hx => ?_⟩, h.d.below.trans ⟨ho, ht, hu, by rw [hz]; exact Nat.le_refl _, fun b hb => hs b fun e => ?_⟩⟩, h.hq, h.hx⟩
  · rcases List.mem_cons.1 hx with rfl | hx
    · exact ⟨hq, nq⟩
    · rw [hs _ (h.hx x hx)]
      exact hX x (List.mem_cons_of_mem _ hx)
  · have := h.hq
    omega
theorem HasL.set (h : HasL w0 w p q D L X) (j : Nat) (v : Value) (e : (lgV p L).setIfInBounds j v = lgV p L') : HasL w0 (w.setCell ⟨q, j, none⟩ v) p q D L' X := by
  refine h.turn (by rw [(h.at.set j v).heap, e]; rfl) (fun b hb => Below.heap_setCell _ _ _ _ hb) rfl rfl rfl ?_
  simp [World.setCell]
theorem HasL.setRow (h : HasL w0 w p q D L X) : HasL w0 (w.setRow q (lgV p L')) p q D L' X :=
  h.turn (h.at.row _).heap (fun b hb => heap_setRow_other hb) rfl rfl rfl (by simp)
/-- a log that is made now -/
theorem has_log (h : HasD w0 w p D X) (hb : Below w.heap.size w w') {q : Nat} (hn : w.heap.size ≤ q) (ho : w'.heap[q]? = some (dob p L)) : HasL w0 w' p q D L X := by
  refine ⟨h.more hb hn ho, Nat.le_trans h.below.size hn, fun y hy e => ?_⟩
  have := Pk.in_heap (h.at (b := y.1) (o := y.2) hy)
  omega
end

/-! ### slips stay -/
structure Kp (w w' : World) : Prop where
  kept : ∀ (b : Nat) (c : Array Value) (fr : Nat × Nat), w.heap[b]? = some (.cells c 39 fr) → w'.heap[b]? = w.heap[b]?
theorem Kp.refl (w : World) : Kp w w := ⟨fun _ _ _ _ => rfl⟩
theorem Kp.trans {a b c : World} (h : Kp a b) (k : Kp b c) : Kp a c := ⟨fun i x fr hi => (k.kept i x fr (by rw [h.kept i x fr hi]; exact hi)).trans (h.kept i x fr hi)⟩
theorem Kp.of_below {w w' : World} (h : Below w.heap.size w w') : Kp w w' := ⟨fun b c fr hb => h.block b (Pk.in_heap hb)⟩
theorem Kp.at {w w' : World} {B : Nat} {cs : Array Value} (k : Kp w w') (h : At w B 39 cs) : At w' B 39 cs := h.same (k.kept _ _ _ h.heap)
theorem Kp.owns {w w' : World} {N sz n : Nat} {v : Value} {xs : List Value} (k : Kp w w') (h : w.ownsRow N 39 sz v n xs) : w'.ownsRow N 39 sz v n xs := by
  refine ⟨h.1, ?_⟩
  rcases h.2 with hn | ⟨g, cap, cur, rfl, hb, hg, rest⟩
  · exact .inl hn
  · exact .inr ⟨g, cap, cur, rfl, hb, by rw [k.kept g _ _ hg]; exact hg, rest⟩
def slipAt (w : World) (b : Nat) : Option (Nat × Obj) :=
  match w.heap[b]? with
  | some (.cells c T fr) => if T = 39 then some (b, .cells c T fr) else none
  | _ => none
theorem slipAt_some {w : World} {b : Nat} {x : Nat × Obj} (h : slipAt w b = some x) : ∃ c fr, x = (b, .cells c 39 fr) ∧ w.heap[b]? = some (.cells c 39 fr) := by
  unfold slipAt at h
  split at h
  · rename_i c T fr hb
    split at h
    · rename_i e
      subst e
      exact ⟨c, fr, (Option.some.inj h).symm, hb⟩
    · cases h
  · cases h
theorem slipAt_of {w : World} {b : Nat} {c : Array Value} {fr : Nat × Nat} (h : w.heap[b]? = some (.cells c 39 fr)) : slipAt w b = some (b, .cells c 39 fr) := by
  unfold slipAt
  rw [h]
  simp
def slipX (w : World) : List (Nat × Obj) := (List.range w.heap.size).filterMap (slipAt w)
theorem mem_slipX {w : World} {x : Nat × Obj} : x ∈ slipX w ↔ ∃ c fr, x.2 = .cells c 39 fr ∧ w.heap[x.1]? = some x.2 := by
  unfold slipX
  rw [List.mem_filterMap]
  constructor
  · rintro ⟨b, _, hb⟩
    obtain ⟨c, fr, rfl, h⟩ := slipAt_some hb
    exact ⟨c, fr, rfl, h⟩
  · rintro ⟨c, fr, e, h⟩
    rw [e] at h
    refine ⟨x.1, by simpa using Pk.in_heap h, ?_⟩
    rw [slipAt_of h, ← e]
section
variable {w0 w w' : World} {p q : Nat} {D D' : Dk} {L L' : Lg} {X : List (Nat × Obj)} {f : Nat} {args : Array Value} {R : Ending → World → Prop}
theorem has_slips (h : HasD w0 w p D X) : HasD w0 w p D (slipX w ++ X) := by
  obtain ⟨m, G, hd, hz, hX⟩ := h.is
  refine ⟨⟨m, G, hd, hz, fun x hx => ?_⟩, h.below⟩
  rcases List.mem_append.1 hx with hx | hx
  · obtain ⟨c, fr, e, hb⟩ := mem_slipX.1 hx
    refine ⟨hb, ?_⟩
    rw [e] at hb
    exact zone_type hd hb (by decide) (by decide) (by decide)
  · exact hX x hx
theorem kp_of (h : HasD w0 w' p D (slipX w ++ X)) : Kp w w' := by
  refine ⟨fun b c fr hb => ?_⟩
  have : ((b, .cells c 39 fr) : Nat × Obj) ∈ slipX w ++ X := List.mem_append_left _ (mem_slipX.2 ⟨c, fr, rfl, hb⟩)
  rw [h.at this, hb]
theorem HasL.slips (h : HasL w0 w p q D L X) : HasL w0 w p q D L (slipX w ++ X) := by
  have := has_slips h.d
  refine ⟨this.less fun x hx => by simp only [List.mem_cons, List.mem_append] at hx ⊢; rcases hx with c | c | c; (· exact .inr (.inl c)); (· exact .inl c); (· exact .inr (.inr c)), h.hq, fun y hy => ?_⟩
  rcases List.mem_append.1 hy with hy | hy
  · obtain ⟨c, fr, e, hb⟩ := mem_slipX.1 hy
    intro e2
    have h2 := h.at.heap
    rw [← e2, hb, e] at h2
    injection h2 with h2
    injection h2 with _ h2
    exact absurd h2 (by decide)
  · exact h.hx y hy
/-- a call that is told for every X leaves the slips -/
theorem HasL.frame (h : HasL w0 w p q D L X) (c : ∀ X, HasL w0 w p q D L X → Calls Tryz.prog f args w fun e w' => R e w' ∧ HasL w0 w' p q D' L' X) : Calls Tryz.prog f args w fun e w' => R e w' ∧ HasL w0 w' p q D' L' X ∧ Kp w w' :=
  (c _ h.slips).mono fun e w' ⟨r, h'⟩ => ⟨r, h'.less fun x hx => List.mem_append_right _ hx, kp_of h'.disk⟩
theorem dframe (h : HasD w0 w p D X) (c : ∀ X, HasD w0 w p D X → Calls Tryz.prog f args w fun e w' => R e w' ∧ HasD w0 w' p D' X) : Calls Tryz.prog f args w fun e w' => R e w' ∧ HasD w0 w' p D' X ∧ Kp w w' :=
  (c _ (has_slips h)).mono fun e w' ⟨r, h'⟩ => ⟨r, h'.less fun x hx => List.mem_append_right _ hx, kp_of h'⟩
end
end Go.Proofs.YtdmgobffhpgjlaaGreat.Sl.Dg
