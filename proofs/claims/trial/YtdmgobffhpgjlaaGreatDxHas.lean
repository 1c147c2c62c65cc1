/-
  The document's disk beside blocks of the law's own, and the document's log over it.
-/
import Derived.Test.YtdmgobffhpgjlaaGreatPkBoth
import Derived.Test.YtdmgobffhpgjlaaGreatDgRow
import Derived.Test.YtdmgobffhpgjlaaGreatSlRef7

namespace Go.Proofs.YtdmgobffhpgjlaaGreat.Sl.Dg
open Go.RowKit Go.PlainAid Go.Proofs.YtdmgobffhpgjlaaGreat.Cr
open Go.Proofs.YtdmgobffhpgjlaaGreat.Pk (Bs Fi Dk kl usedF delF insF updF getF RefAt rzone RPost PlaceIs isName)
set_option linter.unusedVariables false
set_option maxRecDepth 20000
set_option linter.unusedSimpArgs false

/-- the document's disk; X: blocks of the law's own beside it -/
structure HasR (w0 w : World) (u : Nat) (E : Dk) (X : List (Nat × Obj)) : Prop where
  is : ∃ v a mo, RefAt w u v a mo E ∧ (∀ b, rzone u v b → w0.heap.size ≤ b) ∧ ∀ x ∈ X, w.heap[x.1]? = some x.2 ∧ ¬ rzone u v x.1
  below : Below w0.heap.size w0 w
section
variable {w0 w w' : World} {u r : Nat} {E E' : Dk} {v : Value} {L L' : Lg} {f : Nat} {args : Array Value} {R : Ending → Prop} {X : List (Nat × Obj)}
theorem HasR.ok (h : HasR w0 w u E X) : E.Ok := by
  obtain ⟨v, a, mo, hr, _⟩ := h.is
  exact hr.ok
theorem HasR.at (h : HasR w0 w u E X) {b : Nat} {o : Obj} (hx : (b, o) ∈ X) : w.heap[b]? = some o := by
  obtain ⟨v, a, mo, _, _, hX⟩ := h.is
  exact (hX _ hx).1
theorem HasR.kept (h : HasR w0 w u E X) (hb : Below w.heap.size w w') : HasR w0 w' u E X := by
  obtain ⟨v, a, mo, hr, h2, hX⟩ := h.is
  exact ⟨⟨v, a, mo, hr.kept fun b z => hb.block b (hr.lt z), h2, fun x hx => ⟨by rw [hb.block x.1 (Pk.in_heap (hX x hx).1)]; exact (hX x hx).1, (hX x hx).2⟩⟩, h.below.trans (hb.mono h.below.size)⟩
theorem HasR.less (h : HasR w0 w u E X) {Y : List (Nat × Obj)} (hY : ∀ x ∈ Y, x ∈ X) : HasR w0 w u E Y := by
  obtain ⟨v, a, mo, hr, h2, hX⟩ := h.is
  exact ⟨⟨v, a, mo, hr, h2, fun x hx => hX x (hY x hx)⟩, h.below⟩
theorem HasR.more (h : HasR w0 w u E X) (hb : Below w.heap.size w w') {b : Nat} {o : Obj} (hn : w.heap.size ≤ b) (ho : w'.heap[b]? = some o) : HasR w0 w' u E ((b, o) :: X) := by
  obtain ⟨v, a, mo, hr, h2, hX⟩ := h.is
  refine ⟨⟨v, a, mo, hr.kept fun b z => hb.block b (hr.lt z), h2, fun x hx => ?_⟩, h.below.trans (hb.mono h.below.size)⟩
  rcases List.mem_cons.1 hx with rfl | hx
  · exact ⟨ho, fun z => by have := hr.lt z; simp at this; omega⟩
  · exact ⟨by rw [hb.block x.1 (Pk.in_heap (hX x hx).1)]; exact (hX x hx).1, (hX x hx).2⟩
theorem HasR.alloc (h : HasR w0 w u E X) (o : Obj) : HasR w0 (w.alloc o) u E X := h.kept ((Below.refl _ _).alloc (Nat.le_refl _) _)
theorem HasR.drew (h : HasR w0 w u E X) : HasR w0 w.drew u E X := h.kept (Below.refl _ _).drew
theorem HasR.drewN (h : HasR w0 w u E X) (n : Nat) : HasR w0 (w.drewN n) u E X := h.kept ⟨rfl, rfl, rfl, Nat.le_refl _, fun _ _ => rfl⟩
theorem HasR.post {v : Value} {a mo : Int} (hr : RefAt w u v a mo E) (hz : (∀ b, rzone u v b → w0.heap.size ≤ b) ∧ ∀ x ∈ X, w.heap[x.1]? = some x.2 ∧ ¬ rzone u v x.1) (hb : Below w0.heap.size w0 w) (hp : RPost w w' u v E') : HasR w0 w' u E' X := by
  obtain ⟨v', a', mo', hr', g⟩ := hp
  obtain ⟨h2, hX⟩ := hz
  have far : ∀ b, rzone u v' b → b < w.heap.size → rzone u v b := fun b z l => by
    rcases g.sub b z with c | c
    · exact c
    · omega
  refine ⟨⟨v', a', mo', hr', fun b z => ?_, fun x hx => ?_⟩, g.below hb hb.size h2⟩
  · rcases g.sub b z with c | c
    · exact h2 b c
    · exact Nat.le_trans hb.size c
  · obtain ⟨x1, x3⟩ := hX x hx
    exact ⟨by rw [g.block x.1 (Pk.in_heap x1) x3]; exact x1, fun z => x3 (far x.1 z (Pk.in_heap x1))⟩
theorem HasR.lift (h : HasR w0 w u E X) (c : ∀ v a mo, RefAt w u v a mo E → Calls Tryz.prog f args w fun e w' => R e ∧ RPost w w' u v E') : Calls Tryz.prog f args w fun e w' => R e ∧ HasR w0 w' u E' X := by
  obtain ⟨v, a, mo, hr, hz⟩ := h.is
  exact (c v a mo hr).mono fun e w' ⟨q, hp⟩ => ⟨q, HasR.post hr hz h.below hp⟩
theorem rzone_type {v : Value} {a mo : Int} (h : RefAt w u v a mo E) {b : Nat} {c : Array Value} {T : TypeId} {fr : Nat × Nat} (hb : w.heap[b]? = some (.cells c T fr)) (h1 : T ≠ 63) (h2 : T ≠ 65) : ¬ rzone u v b := by
  rintro (rfl | hr)
  · have e := h.head.symm.trans hb
    injection e with e
    injection e with _ e
    exact h1 e.symm
  · obtain ⟨cur, hc⟩ := Pk.orow_block h.row hr
    have e := hc.symm.trans hb
    injection e with e
    injection e with _ e
    exact h2 e.symm
theorem HasR.slips (h : HasR w0 w u E X) : HasR w0 w u E (slipX w ++ X) := by
  obtain ⟨v, a, mo, hr, h2, hX⟩ := h.is
  refine ⟨⟨v, a, mo, hr, h2, fun x hx => ?_⟩, h.below⟩
  rcases List.mem_append.1 hx with hx | hx
  · obtain ⟨c, fr, e, hb⟩ := mem_slipX.1 hx
    refine ⟨hb, ?_⟩
    rw [e] at hb
    exact rzone_type hr hb (by decide) (by decide)
  · exact hX x hx
theorem rkp_of (h : HasR w0 w' u E (slipX w ++ X)) : Kp w w' := by
  refine ⟨fun b c fr hb => ?_⟩
  have : ((b, .cells c 39 fr) : Nat × Obj) ∈ slipX w ++ X := List.mem_append_left _ (mem_slipX.2 ⟨c, fr, rfl, hb⟩)
  rw [h.at this, hb]

/-! ### the calls -/
theorem rh_place (h : HasR w0 w u E X) (s : ByteArray) : Calls Tryz.prog 39 #[.pointer (some ⟨u, 0, none⟩), .string s] w fun e w' => ∃ i, e = .returned (.int .i64 i) ∧ PlaceIs (kl s) E.L i ∧ w = w' := by
  obtain ⟨v, a, mo, hr, _⟩ := h.is
  exact Pk.place_any hr s
theorem rh_create (h : HasR w0 w u E X) (pw : E.Pw) (ho : E.ops ≤ 1099511627776) {s : ByteArray} (hs : s.size ≤ 9223372036854775807) :
    Calls Tryz.prog 41 #[.pointer (some ⟨u, 0, none⟩), .string s] w fun e w' => e = .returned (.int .i64 (E.create (kl s)).1) ∧ HasR w0 w' u (E.create (kl s)).2 X := h.lift fun v a mo hr => Pk.rcreate_any hr pw ho hs
theorem rh_append (h : HasR w0 w u E X) (pw : E.Pw) (ho : E.ops ≤ 1099511627776) {s t : ByteArray} (hs : s.size ≤ 9223372036854775807) (ht : t.size ≤ 1099511627) :
    Calls Tryz.prog 20 #[.pointer (some ⟨u, 0, none⟩), .string s, .string t] w fun e w' => e = .returned (.int .i64 (E.append (kl s) (kl t)).1) ∧ HasR w0 w' u (E.append (kl s) (kl t)).2 X := h.lift fun v a mo hr => Pk.rappend_any hr pw ho hs ht
theorem rh_read (h : HasR w0 w u E X) (pw : E.Pw) (ho : E.ops ≤ 1099511627776) {s : ByteArray} (hs : s.size ≤ 9223372036854775807) (pos n : Int) (hp : pos ≤ 9223372036854775807) (hn : n ≤ 9223372036854775807) :
    Calls Tryz.prog 42 #[.pointer (some ⟨u, 0, none⟩), .string s, .int .i64 pos, .int .i64 n] w fun e w' => e = .returned (.tuple #[.string ⟨(E.read (kl s) pos n).1.toArray⟩, .int .i64 (E.read (kl s) pos n).2.1]) ∧ HasR w0 w' u (E.read (kl s) pos n).2.2 X := h.lift fun v a mo hr => Pk.rread_any hr pw ho hs pos n hp hn
theorem rh_sync (h : HasR w0 w u E X) (pw : E.Pw) (ho : E.ops ≤ 1099511627776) {s : ByteArray} (hs : s.size ≤ 9223372036854775807) :
    Calls Tryz.prog 43 #[.pointer (some ⟨u, 0, none⟩), .string s] w fun e w' => e = .returned (.int .i64 (E.sync (kl s)).1) ∧ HasR w0 w' u (E.sync (kl s)).2 X := h.lift fun v a mo hr => Pk.rsync_any hr pw ho hs
theorem rh_rename (h : HasR w0 w u E X) (pw : E.Pw) (ho : E.ops ≤ 1099511627776) {s t : ByteArray} (hs : s.size ≤ 9223372036854775807) (ht : t.size ≤ 9223372036854775807) :
    Calls Tryz.prog 59 #[.pointer (some ⟨u, 0, none⟩), .string s, .string t] w fun e w' => e = .returned (.int .i64 (E.rename (kl s) (kl t)).1) ∧ HasR w0 w' u (E.rename (kl s) (kl t)).2 X := h.lift fun v a mo hr => Pk.rrename_any hr pw ho hs ht
theorem rh_delete (h : HasR w0 w u E X) (pw : E.Pw) (ho : E.ops ≤ 1099511627776) {s : ByteArray} (hs : s.size ≤ 9223372036854775807) :
    Calls Tryz.prog 40 #[.pointer (some ⟨u, 0, none⟩), .string s] w fun e w' => e = .returned (.int .i64 (E.delete (kl s)).1) ∧ HasR w0 w' u (E.delete (kl s)).2 X := h.lift fun v a mo hr => Pk.rdelete_any hr pw ho hs
/-- a file of the document's disk, as the walk reads it -/
theorem HasR.file (h : HasR w0 w u E X) {n : Nat} {f : Fi} (hn : E.L[n]? = some f) : ∃ g cap, w.cell? ⟨u, 0, none⟩ = some (.slice (some ⟨g, 0, none⟩) E.L.length cap) ∧ w.cell? ⟨g, n * 3 + 1, none⟩ = some (.string ⟨f.bs.toArray⟩) := by
  obtain ⟨v, a, mo, hr, _⟩ := h.is
  obtain ⟨g, cap, e, hc, _⟩ := hr.file hn
  have c0 := hr.cell 0
  exact ⟨g, cap, by rw [← e]; exact c0, hc 1 _ rfl⟩

/-! ### the document's log -/
def rgV (u : Nat) (v : Value) (L : Lg) : Array Value := #[.pointer (some ⟨u, 0, none⟩), v, .int .i64 L.s, .int .i64 L.b, .bool L.k]
def rob (u : Nat) (v : Value) (L : Lg) : Obj := .cells (rgV u v L) 45 (0, 0)
structure HasQ (w0 w : World) (u r : Nat) (E : Dk) (v : Value) (L : Lg) (X : List (Nat × Obj)) : Prop where
  d : HasR w0 w u E ((r, rob u v L) :: X)
  hq : w0.heap.size ≤ r
  hx : ∀ y ∈ X, y.1 ≠ r
theorem HasQ.at (h : HasQ w0 w u r E v L X) : At w r 45 (rgV u v L) := ⟨h.d.at (List.mem_cons_self ..)⟩
theorem HasQ.lt (h : HasQ w0 w u r E v L X) : r < w.heap.size := h.at.lt
theorem HasQ.below (h : HasQ w0 w u r E v L X) : Below w0.heap.size w0 w := h.d.below
theorem HasQ.ok (h : HasQ w0 w u r E v L X) : E.Ok := h.d.ok
theorem HasQ.kept (h : HasQ w0 w u r E v L X) (hb : Below w.heap.size w w') : HasQ w0 w' u r E v L X := ⟨h.d.kept hb, h.hq, h.hx⟩
theorem HasQ.drew (h : HasQ w0 w u r E v L X) : HasQ w0 w.drew u r E v L X := h.kept (Below.refl _ _).drew
theorem HasQ.drewN (h : HasQ w0 w u r E v L X) (n : Nat) : HasQ w0 (w.drewN n) u r E v L X := ⟨h.d.drewN n, h.hq, h.hx⟩
theorem HasQ.alloc (h : HasQ w0 w u r E v L X) (o : Obj) : HasQ w0 (w.alloc o) u r E v L X := ⟨h.d.alloc o, h.hq, h.hx⟩
theorem HasQ.disk (h : HasQ w0 w u r E v L X) : HasR w0 w u E X := h.d.less fun x hx => List.mem_cons_of_mem _ hx
theorem HasQ.less (h : HasQ w0 w u r E v L X) {Y : List (Nat × Obj)} (hY : ∀ x ∈ Y, x ∈ X) : HasQ w0 w u r E v L Y :=
  ⟨h.d.less fun x hx => by
    rcases List.mem_cons.1 hx with rfl | hx
    · exact List.mem_cons_self ..
    · exact List.mem_cons_of_mem _ (hY x hx), h.hq, fun y hy => h.hx y (hY y hy)⟩
/-- the log's own struct has turned, nothing else -/
theorem HasQ.turn {v' : Value} (h : HasQ w0 w u r E v L X) (hq : w'.heap[r]? = some (rob u v' L')) (hs : ∀ b, b ≠ r → w'.heap[b]? = w.heap[b]?) (ho : w'.os = w.os) (ht : w'.tape = w.tape) (hu : w'.output = w.output) (hz : w'.heap.size = w.heap.size) : HasQ w0 w' u r E v' L' X := by
  obtain ⟨y, a, mo, hd, z, hX⟩ := h.d.is
  have nq := (hX _ (List.mem_cons_self ..)).2
  refine ⟨⟨⟨y, a, mo, hd.kept fun b hb => hs b fun e => nq (e ▸ hb), z, fun x hx => ?_⟩, h.d.below.trans ⟨ho, ht, hu, by rw [hz]; exact Nat.le_refl _, fun b hb => hs b fun e => ?_⟩⟩, h.hq, h.hx⟩
  · rcases List.mem_cons.1 hx with rfl | hx
    · exact ⟨hq, nq⟩
    · rw [hs _ (h.hx x hx)]
      exact hX x (List.mem_cons_of_mem _ hx)
  · have := h.hq
    omega
theorem HasQ.set {v' : Value} (h : HasQ w0 w u r E v L X) (j : Nat) (x : Value) (e : (rgV u v L).setIfInBounds j x = rgV u v' L') : HasQ w0 (w.setCell ⟨r, j, none⟩ x) u r E v' L' X := by
  refine h.turn (by rw [(h.at.set j x).heap, e]; rfl) (fun b hb => Below.heap_setCell _ _ _ _ hb) rfl rfl rfl ?_
  simp [World.setCell]
/-- a log that is made now -/
theorem has_rlog (h : HasR w0 w u E X) (hb : Below w.heap.size w w') {q : Nat} (hn : w.heap.size ≤ q) (ho : w'.heap[q]? = some (rob u v L)) : HasQ w0 w' u q E v L X := by
  refine ⟨h.more hb hn ho, Nat.le_trans h.below.size hn, fun y hy e => ?_⟩
  have := Pk.in_heap (h.at (b := y.1) (o := y.2) hy)
  omega
theorem HasQ.slips (h : HasQ w0 w u r E v L X) : HasQ w0 w u r E v L (slipX w ++ X) := by
  have := h.d.slips
  refine ⟨this.less fun x hx => by simp only [List.mem_cons, List.mem_append] at hx ⊢; rcases hx with c | c | c; (· exact .inr (.inl c)); (· exact .inl c); (· exact .inr (.inr c)), h.hq, fun y hy => ?_⟩
  rcases List.mem_append.1 hy with hy | hy
  · obtain ⟨c, fr, e, hb⟩ := mem_slipX.1 hy
    intro e2
    have h2 := h.at.heap
    rw [← e2, hb, e] at h2
    injection h2 with h2
    injection h2 with _ h2
    exact absurd h2 (by decide)
  · exact h.hx y hy
theorem HasQ.kset (h : HasQ w0 w u r E v L X) (j : Nat) (x : Value) : Kp w (w.setCell ⟨r, j, none⟩ x) := by
  refine ⟨fun b c fr hb => Below.heap_setCell _ _ _ _ fun e => ?_⟩
  have := h.at.heap
  simp only at e
  rw [← e, hb] at this
  injection this with this
  injection this with _ this
  exact absurd this (by decide)
end

/-! ### plain: what Open finds -/
section
variable {D D1 D2 D3 D4 : Dk} {e1 e2 e3 e4 : Int} {t : Bs}
theorem get_ins (f : Fi) : ∀ {l : List Fi}, getF f.nm l = none → getF f.nm (insF f l) = some f
  | [], _ => by simp [insF, getF]
  | y :: r, h => by
    unfold getF at h ⊢
    rw [List.find?_cons] at h
    split at h
    · cases h
    · rename_i e
      unfold insF
      split
      · simp
      · rw [List.find?_cons, e]
        exact get_ins f h
theorem size_none {n : Bs} (h : getF n D.L = none) : D.size n = -1 := by unfold Dk.size; rw [h]
theorem size_some {n : Bs} {f : Fi} (h : getF n D.L = some f) : D.size n = (f.bs.length : Int) := by unfold Dk.size; rw [h]
theorem make_has (h : make D = (0, D1)) : ∃ f, getF dN D1.L = some f := by
  unfold make at h
  split at h
  · unfold Dk.create at h
    simp only at h
    split at h
    · rename_i c
      rw [h] at c
      exact absurd rfl c
    · split at h
      · injection h with h; cases h
      · rename_i c
        split at h
        · injection h with h; cases h
        · injection h with _ h
          subst h
          refine ⟨⟨dN, [], 0⟩, get_ins ⟨dN, [], 0⟩ ?_⟩
          simpa using c
  · rename_i c
    injection h with _ h
    subst h
    cases hg : getF dN D.L with
    | none => rw [size_none hg] at c; omega
    | some f => exact ⟨f, rfl⟩
theorem read_whole (h : D.read dN 0 (D.size dN) = (t, 0, D1)) : (t.length : Int) = D.size dN := by
  obtain ⟨hb, _⟩ := Pk.beg_L D (isName dN && decide ((0 : Int) ≤ 0) && decide (0 ≤ D.size dN))
  unfold Dk.read at h
  simp only at h
  split at h
  · rename_i c
    injection h with _ h
    rw [h] at c
    exact absurd rfl c
  · rw [hb] at h
    cases hg : getF dN D.L with
    | none => rw [hg] at h; injection h with _ h; injection h with h; cases h
    | some f =>
      rw [hg] at h
      simp only at h
      split at h
      · injection h with _ h; injection h with h; cases h
      · injection h with h _
        rw [← h, size_some hg]
        simp
theorem load_eq (hD : disc D = (e1, D1)) (hM : make D1 = (e2, D2)) (hR : D2.read dN 0 (D2.size dN) = (t, e3, D3)) (hS : D3.sync dN = (e4, D4)) :
    load D = if e1 ≠ 0 then ([], e1, D1) else if e2 ≠ 0 then ([], e2, D2) else if e3 ≠ 0 then ([], e3, D3) else if e4 ≠ 0 then ([], e4, D4) else (t, 0, D4) := by
  unfold load
  simp only [hD, hM, hR, hS]
theorem disc_pw (pw : D.Pw) (ok : D.Ok) : (disc D).2.Pw := by
  unfold disc
  split
  · exact pw
  · exact (Pk.steps_delete pw ok nN).1
theorem make_pw (pw : D.Pw) (ok : D.Ok) : (make D).2.Pw := by
  unfold make
  split
  · exact (Pk.steps_create pw ok dN).1
  · exact pw
theorem fill_pw (pw : D.Pw) (ok : D.Ok) (s : Bs) : (fill D s).2.Pw := by
  unfold fill
  split
  · exact pw
  · exact (Pk.steps_append pw ok nN s).1
end
end Go.Proofs.YtdmgobffhpgjlaaGreat.Sl.Dg
