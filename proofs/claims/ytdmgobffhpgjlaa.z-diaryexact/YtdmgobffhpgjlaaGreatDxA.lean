/-
  The document's disk beside blocks of the law's own, and the document's log over it.
  The document's Place told of a disk beside blocks of the law's own; what is there ahead of Open and Rewrite.
  What the calls of a log make of a disk: it stays a disk, a fault that is armed lies ahead, and how much it grows. No program text.
-/
import Derived.Test.YtdmgobffhpgjlaaGreatPkBoth
import Derived.Test.YtdmgobffhpgjlaaGreatDgE
import Derived.Test.YtdmgobffhpgjlaaGreatSlG
section
namespace Go.Proofs.YtdmgobffhpgjlaaGreat.Sl.Dg
open Go.RowKit Go.PlainAid Go.Proofs.YtdmgobffhpgjlaaGreat.Cr
open Go.Proofs.YtdmgobffhpgjlaaGreat.Pk (Bs Fi Dk kl usedF delF insF updF getF RefAt rzone RPost PlaceIs isName)
set_option linter.unusedVariables false
set_option maxRecDepth 20000
set_option linter.unusedSimpArgs false

/-- the document's disk; X: blocks of the law's own beside it -/
structure HasR (w0 w : World) (u : Nat) (E : Dk) (X : List (Nat × Obj)) : Prop where
  is : ∃ v a mo, RefAt w u v a mo E ∧ (∀ b, rzone u v b → w0.heap.size ≤ b) ∧ ∀ x ∈ X, w.heap[x.1]? = some x.2 ∧ ¬ rzone u v x.1
  below : Below w0.heap.size w0 w
section
variable {w0 w w' : World} {u r : Nat} {E E' : Dk} {v : Value} {L L' : Lg} {f : Nat} {args : Array Value} {R : Ending → Prop} {X : List (Nat × Obj)}
theorem HasR.ok (h : HasR w0 w u E X) : E.Ok := by
  obtain ⟨v, a, mo, hr, _⟩ := h.is
  exact hr.ok
theorem HasR.at (h : HasR w0 w u E X) {b : Nat} {o : Obj} (hx : (b, o) ∈ X) : w.heap[b]? = some o := by
  obtain ⟨v, a, mo, _, _, hX⟩ := h.is
  exact (hX _ hx).1
theorem HasR.kept (h : HasR w0 w u E X) (hb : Below w.heap.size w w') : HasR w0 w' u E X := by
  obtain ⟨v, a, mo, hr, h2, hX⟩ := h.is
  exact ⟨⟨v, a, mo, hr.kept fun b z => hb.block b (hr.lt z), h2, fun x hx => ⟨by rw [hb.block x.1 (Pk.in_heap (hX x hx).1)]; exact (hX x hx).1, (hX x hx).2⟩⟩, h.below.trans (hb.mono h.below.size)⟩
theorem HasR.less (h : HasR w0 w u E X) {Y : List (Nat × Obj)} (hY : ∀ x ∈ Y, x ∈ X) : HasR w0 w u E Y := by
  obtain ⟨v, a, mo, hr, h2, hX⟩ := h.is
  exact ⟨⟨v, a, mo, hr, h2, fun x hx => hX x (hY x hx)⟩, h.below⟩
theorem HasR.more (h : HasR w0 w u E X) (hb : Below w.heap.size w w') {b : Nat} {o : Obj} (hn : w.heap.size ≤ b) (ho : w'.heap[b]? = some o) : HasR w0 w' u E ((b, o) :: X) := by
  obtain ⟨v, a, mo, hr, h2, hX⟩ := h.is
  refine ⟨⟨v, a, mo, hr.kept fun b z => hb.block b (hr.lt z), h2, fun x hx => ?_⟩, h.below.trans (hb.mono h.below.size)⟩
  rcases List.mem_cons.1 hx with rfl | hx
  · exact ⟨ho, fun z => by have := hr.lt z; simp at this; omega⟩
  · exact ⟨by rw [hb.block x.1 (Pk.in_heap (hX x hx).1)]; exact (hX x hx).1, (hX x hx).2⟩
theorem HasR.alloc (h : HasR w0 w u E X) (o : Obj) : HasR w0 (w.alloc o) u E X := h.kept ((Below.refl _ _).alloc (Nat.le_refl _) _)
theorem HasR.drew (h : HasR w0 w u E X) : HasR w0 w.drew u E X := h.kept (Below.refl _ _).drew
theorem HasR.drewN (h : HasR w0 w u E X) (n : Nat) : HasR w0 (w.drewN n) u E X := h.kept ⟨rfl, rfl, rfl, Nat.le_refl _, fun _ _ => rfl⟩
theorem HasR.post {v : Value} {a mo : Int} (hr : RefAt w u v a mo E) (hz : (∀ b, rzone u v b → w0.heap.size ≤ b) ∧ ∀ x ∈ X, w.heap[x.1]? = some x.2 ∧ ¬ rzone u v x.1) (hb : Below w0.heap.size w0 w) (hp : RPost w w' u v E') : HasR w0 w' u E' X := by
  obtain ⟨v', a', mo', hr', g⟩ := hp
  obtain ⟨h2, hX⟩ := hz
  have far : ∀ b, rzone u v' b → b < w.heap.size → rzone u v b := fun b z l => by
    rcases g.sub b z with c | c
    · exact c
    · omega
  refine ⟨⟨v', a', mo', hr', fun b z => ?_, fun x hx => ?_⟩, g.below hb hb.size h2⟩
  · rcases g.sub b z with c | c
    · exact h2 b c
    · exact Nat.le_trans hb.size c
  · obtain ⟨x1, x3⟩ := hX x hx
    exact ⟨by rw [g.block x.1 (Pk.in_heap x1) x3]; exact x1, fun z => x3 (far x.1 z (Pk.in_heap x1))⟩
theorem HasR.lift (h : HasR w0 w u E X) (c : ∀ v a mo, RefAt w u v a mo E → Calls Tryz.prog f args w fun e w' => R e ∧ RPost w w' u v E') : Calls Tryz.prog f args w fun e w' => R e ∧ HasR w0 w' u E' X := by
  obtain ⟨v, a, mo, hr, hz⟩ := h.is
  exact (c v a mo hr).mono fun e w' ⟨q, hp⟩ => ⟨q, HasR.post hr hz h.below hp⟩
theorem rzone_type {v : Value} {a mo : Int} (h : RefAt w u v a mo E) {b : Nat} {c : Array Value} {T : TypeId} {fr : Nat × Nat} (hb : w.heap[b]? = some (.cells c T fr)) (h1 : T ≠ 63) (h2 : T ≠ 65) : ¬ rzone u v b := by
  rintro (rfl | hr)
  · have e := h.head.symm.trans hb
    injection e with e
    injection e with _ e
    exact h1 e.symm
  · obtain ⟨cur, hc⟩ := Pk.orow_block h.row hr
    have e := hc.symm.trans hb
    injection e with e
    injection e with _ e
    exact h2 e.symm
theorem HasR.slips (h : HasR w0 w u E X) : HasR w0 w u E (slipX w ++ X) := by
  obtain ⟨v, a, mo, hr, h2, hX⟩ := h.is
  refine ⟨⟨v, a, mo, hr, h2, fun x hx => ?_⟩, h.below⟩
  rcases List.mem_append.1 hx with hx | hx
  · obtain ⟨c, fr, e, hb⟩ := mem_slipX.1 hx
    refine ⟨hb, ?_⟩
    rw [e] at hb
    exact rzone_type hr hb (by decide) (by decide)
  · exact hX x hx
theorem rkp_of (h : HasR w0 w' u E (slipX w ++ X)) : Kp w w' := by
  refine ⟨fun b c fr hb => ?_⟩
  have : ((b, .cells c 39 fr) : Nat × Obj) ∈ slipX w ++ X := List.mem_append_left _ (mem_slipX.2 ⟨c, fr, rfl, hb⟩)
  rw [h.at this, hb]

/-! ### the calls -/
theorem rh_place (h : HasR w0 w u E X) (s : ByteArray) : Calls Tryz.prog 39 #[.pointer (some ⟨u, 0, none⟩), .string s] w fun e w' => ∃ i, e = .returned (.int .i64 i) ∧ PlaceIs (kl s) E.L i ∧ w = w' := by
  obtain ⟨v, a, mo, hr, _⟩ := h.is
  exact Pk.place_any hr s
theorem rh_create (h : HasR w0 w u E X) (pw : E.Pw) (ho : E.ops ≤ 1099511627776) {s : ByteArray} (hs : s.size ≤ 9223372036854775807) :
    Calls Tryz.prog 41 #[.pointer (some ⟨u, 0, none⟩), .string s] w fun e w' => e = .returned (.int .i64 (E.create (kl s)).1) ∧ HasR w0 w' u (E.create (kl s)).2 X := h.lift fun v a mo hr => Pk.rcreate_any hr pw ho hs
theorem rh_append (h : HasR w0 w u E X) (pw : E.Pw) (ho : E.ops ≤ 1099511627776) {s t : ByteArray} (hs : s.size ≤ 9223372036854775807) (ht : t.size ≤ 1099511627) :
    Calls Tryz.prog 20 #[.pointer (some ⟨u, 0, none⟩), .string s, .string t] w fun e w' => e = .returned (.int .i64 (E.append (kl s) (kl t)).1) ∧ HasR w0 w' u (E.append (kl s) (kl t)).2 X := h.lift fun v a mo hr => Pk.rappend_any hr pw ho hs ht
theorem rh_read (h : HasR w0 w u E X) (pw : E.Pw) (ho : E.ops ≤ 1099511627776) {s : ByteArray} (hs : s.size ≤ 9223372036854775807) (pos n : Int) (hp : pos ≤ 9223372036854775807) (hn : n ≤ 9223372036854775807) :
    Calls Tryz.prog 42 #[.pointer (some ⟨u, 0, none⟩), .string s, .int .i64 pos, .int .i64 n] w fun e w' => e = .returned (.tuple #[.string ⟨(E.read (kl s) pos n).1.toArray⟩, .int .i64 (E.read (kl s) pos n).2.1]) ∧ HasR w0 w' u (E.read (kl s) pos n).2.2 X := h.lift fun v a mo hr => Pk.rread_any hr pw ho hs pos n hp hn
theorem rh_sync (h : HasR w0 w u E X) (pw : E.Pw) (ho : E.ops ≤ 1099511627776) {s : ByteArray} (hs : s.size ≤ 9223372036854775807) :
    Calls Tryz.prog 43 #[.pointer (some ⟨u, 0, none⟩), .string s] w fun e w' => e = .returned (.int .i64 (E.sync (kl s)).1) ∧ HasR w0 w' u (E.sync (kl s)).2 X := h.lift fun v a mo hr => Pk.rsync_any hr pw ho hs
theorem rh_rename (h : HasR w0 w u E X) (pw : E.Pw) (ho : E.ops ≤ 1099511627776) {s t : ByteArray} (hs : s.size ≤ 9223372036854775807) (ht : t.size ≤ 9223372036854775807) :
    Calls Tryz.prog 59 #[.pointer (some ⟨u, 0, none⟩), .string s, .string t] w fun e w' => e = .returned (.int .i64 (E.rename (kl s) (kl t)).1) ∧ HasR w0 w' u (E.rename (kl s) (kl t)).2 X := h.lift fun v a mo hr => Pk.rrename_any hr pw ho hs ht
theorem rh_delete (h : HasR w0 w u E X) (pw : E.Pw) (ho : E.ops ≤ 1099511627776) {s : ByteArray} (hs : s.size ≤ 9223372036854775807) :
    Calls Tryz.prog 40 #[.pointer (some ⟨u, 0, none⟩), .string s] w fun e w' => e = .returned (.int .i64 (E.delete (kl s)).1) ∧ HasR w0 w' u (E.delete (kl s)).2 X := h.lift fun v a mo hr => Pk.rdelete_any hr pw ho hs
/-- a file of the document's disk, as the walk reads it -/
theorem HasR.file (h : HasR w0 w u E X) {n : Nat} {f : Fi} (hn : E.L[n]? = some f) : ∃ g cap, w.cell? ⟨u, 0, none⟩ = some (.slice (some ⟨g, 0, none⟩) E.L.length cap) ∧ w.cell? ⟨g, n * 3 + 1, none⟩ = some (.string ⟨f.bs.toArray⟩) := by
  obtain ⟨v, a, mo, hr, _⟩ := h.is
  obtain ⟨g, cap, e, hc, _⟩ := hr.file hn
  have c0 := hr.cell 0
  exact ⟨g, cap, by rw [← e]; exact c0, hc 1 _ rfl⟩

/-! ### the document's log -/
def rgV (u : Nat) (v : Value) (L : Lg) : Array Value := #[.pointer (some ⟨u, 0, none⟩), v, .int .i64 L.s, .int .i64 L.b, .bool L.k]
def rob (u : Nat) (v : Value) (L : Lg) : Obj := .cells (rgV u v L) 45 (0, 0)
structure HasQ (w0 w : World) (u r : Nat) (E : Dk) (v : Value) (L : Lg) (X : List (Nat × Obj)) : Prop where
  d : HasR w0 w u E ((r, rob u v L) :: X)
  hq : w0.heap.size ≤ r
  hx : ∀ y ∈ X, y.1 ≠ r
theorem HasQ.at (h : HasQ w0 w u r E v L X) : At w r 45 (rgV u v L) := ⟨h.d.at (List.mem_cons_self ..)⟩
theorem HasQ.lt (h : HasQ w0 w u r E v L X) : r < w.heap.size := h.at.lt
theorem HasQ.below (h : HasQ w0 w u r E v L X) : Below w0.heap.size w0 w := h.d.below
theorem HasQ.ok (h : HasQ w0 w u r E v L X) : E.Ok := h.d.ok
theorem HasQ.kept (h : HasQ w0 w u r E v L X) (hb : Below w.heap.size w w') : HasQ w0 w' u r E v L X := ⟨h.d.kept hb, h.hq, h.hx⟩
theorem HasQ.drew (h : HasQ w0 w u r E v L X) : HasQ w0 w.drew u r E v L X := h.kept (Below.refl _ _).drew
theorem HasQ.drewN (h : HasQ w0 w u r E v L X) (n : Nat) : HasQ w0 (w.drewN n) u r E v L X := ⟨h.d.drewN n, h.hq, h.hx⟩
theorem HasQ.alloc (h : HasQ w0 w u r E v L X) (o : Obj) : HasQ w0 (w.alloc o) u r E v L X := ⟨h.d.alloc o, h.hq, h.hx⟩
theorem HasQ.disk (h : HasQ w0 w u r E v L X) : HasR w0 w u E X := h.d.less fun x hx => List.mem_cons_of_mem _ hx
theorem HasQ.less (h : HasQ w0 w u r E v L X) {Y : List (Nat × Obj)} (hY : ∀ x ∈ Y, x ∈ X) : HasQ w0 w u r E v L Y :=
  ⟨h.d.less fun x hx => by
    rcases List.mem_cons.1 hx with rfl | hx
    · exact List.mem_cons_self ..
    · exact List.mem_cons_of_mem _ (hY x hx), h.hq, fun y hy => h.hx y (hY y hy)⟩
/-- the log's own struct has turned, nothing else -/
theorem HasQ.turn {v' : Value} (h : HasQ w0 w u r E v L X) (hq : w'.heap[r]? = some (rob u v' L')) (hs : ∀ b, b ≠ r → w'.heap[b]? = w.heap[b]?) (ho : w'.os = w.os) (ht : w'.tape = w.tape) (hu : w'.output = w.output) (hz : w'.heap.size = w.heap.size) : HasQ w0 w' u r E v' L' X := by
  obtain ⟨y, a, mo, hd, z, hX⟩ := h.d.is
  have nq := (hX _ (List.mem_cons_self ..)).2
  refine ⟨⟨⟨y, a, mo, hd.kept fun b hb => hs b fun e => nq (e ▸ hb), z, fun x hx => ?_⟩, h.d.below.trans ⟨ho, ht, hu, by rw [hz]; exact Nat.le_refl _, fun b hb => hs b fun e => ?_⟩⟩, h.hq, h.hx⟩
  · rcases List.mem_cons.1 hx with rfl | hx
    · exact ⟨hq, nq⟩
    · rw [hs _ (h.hx x hx)]
      exact hX x (List.mem_cons_of_mem _ hx)
  · have := h.hq
    omega
theorem HasQ.set {v' : Value} (h : HasQ w0 w u r E v L X) (j : Nat) (x : Value) (e : (rgV u v L).setIfInBounds j x = rgV u v' L') : HasQ w0 (w.setCell ⟨r, j, none⟩ x) u r E v' L' X := by
  refine h.turn (by rw [(h.at.set j x).heap, e]; rfl) (fun b hb => Below.heap_setCell _ _ _ _ hb) rfl rfl rfl ?_
  simp [World.setCell]
/-- a log that is made now -/
theorem has_rlog (h : HasR w0 w u E X) (hb : Below w.heap.size w w') {q : Nat} (hn : w.heap.size ≤ q) (ho : w'.heap[q]? = some (rob u v L)) : HasQ w0 w' u q E v L X := by
  refine ⟨h.more hb hn ho, Nat.le_trans h.below.size hn, fun y hy e => ?_⟩
  have := Pk.in_heap (h.at (b := y.1) (o := y.2) hy)
  omega
theorem HasQ.slips (h : HasQ w0 w u r E v L X) : HasQ w0 w u r E v L (slipX w ++ X) := by
  have := h.d.slips
  refine ⟨this.less fun x hx => by simp only [List.mem_cons, List.mem_append] at hx ⊢; rcases hx with c | c | c; (· exact .inr (.inl c)); (· exact .inl c); (· exact .inr (.inr c)), h.hq, fun y hy => ?_⟩
  rcases List.mem_append.1 hy with hy | hy
  · obtain ⟨c, fr, e, hb⟩ := mem_slipX.1 hy
    intro e2
    have h2 := h.at.heap
    rw [← e2, hb, e] at h2
    injection h2 with h2
    injection h2 with _ h2
    exact absurd h2 (by decide)
  · exact h.hx y hy
theorem HasQ.kset (h : HasQ w0 w u r E v L X) (j : Nat) (x : Value) : Kp w (w.setCell ⟨r, j, none⟩ x) := by
  refine ⟨fun b c fr hb => Below.heap_setCell _ _ _ _ fun e => ?_⟩
  have := h.at.heap
  simp only at e
  rw [← e, hb] at this
  injection this with this
  injection this with _ this
  exact absurd this (by decide)
end

/-! ### plain: what Open finds -/
section
variable {D D1 D2 D3 D4 : Dk} {e1 e2 e3 e4 : Int} {t : Bs}
theorem get_ins (f : Fi) : ∀ {l : List Fi}, getF f.nm l = none → getF f.nm (insF f l) = some f
  | [], _ => by simp [insF, getF]
  | y :: r, h => by
    unfold getF at h ⊢
    rw [List.find?_cons] at h
    split at h
    · cases h
    · rename_i e
      unfold insF
      split
      · simp
      · rw [List.find?_cons, e]
        exact get_ins f h
theorem size_none {n : Bs} (h : getF n D.L = none) : D.size n = -1 := by unfold Dk.size; rw [h]
theorem size_some {n : Bs} {f : Fi} (h : getF n D.L = some f) : D.size n = (f.bs.length : Int) := by unfold Dk.size; rw [h]
theorem make_has (h : make D = (0, D1)) : ∃ f, getF dN D1.L = some f := by
  unfold make at h
  split at h
  · unfold Dk.create at h
    simp only at h
    split at h
    · rename_i c
      rw [h] at c
      exact absurd rfl c
    · split at h
      · injection h with h; cases h
      · rename_i c
        split at h
        · injection h with h; cases h
        · injection h with _ h
          subst h
          refine ⟨⟨dN, [], 0⟩, get_ins ⟨dN, [], 0⟩ ?_⟩
          simpa using c
  · rename_i c
    injection h with _ h
    subst h
    cases hg : getF dN D.L with
    | none => rw [size_none hg] at c; omega
    | some f => exact ⟨f, rfl⟩
theorem read_whole (h : D.read dN 0 (D.size dN) = (t, 0, D1)) : (t.length : Int) = D.size dN := by
  obtain ⟨hb, _⟩ := Pk.beg_L D (isName dN && decide ((0 : Int) ≤ 0) && decide (0 ≤ D.size dN))
  unfold Dk.read at h
  simp only at h
  split at h
  · rename_i c
    injection h with _ h
    rw [h] at c
    exact absurd rfl c
  · rw [hb] at h
    cases hg : getF dN D.L with
    | none => rw [hg] at h; injection h with _ h; injection h with h; cases h
    | some f =>
      rw [hg] at h
      simp only at h
      split at h
      · injection h with _ h; injection h with h; cases h
      · injection h with h _
        rw [← h, size_some hg]
        simp
theorem load_eq (hD : disc D = (e1, D1)) (hM : make D1 = (e2, D2)) (hR : D2.read dN 0 (D2.size dN) = (t, e3, D3)) (hS : D3.sync dN = (e4, D4)) :
    load D = if e1 ≠ 0 then ([], e1, D1) else if e2 ≠ 0 then ([], e2, D2) else if e3 ≠ 0 then ([], e3, D3) else if e4 ≠ 0 then ([], e4, D4) else (t, 0, D4) := by
  unfold load
  simp only [hD, hM, hR, hS]
theorem disc_pw (pw : D.Pw) (ok : D.Ok) : (disc D).2.Pw := by
  unfold disc
  split
  · exact pw
  · exact (Pk.steps_delete pw ok nN).1
theorem make_pw (pw : D.Pw) (ok : D.Ok) : (make D).2.Pw := by
  unfold make
  split
  · exact (Pk.steps_create pw ok dN).1
  · exact pw
theorem fill_pw (pw : D.Pw) (ok : D.Ok) (s : Bs) : (fill D s).2.Pw := by
  unfold fill
  split
  · exact pw
  · exact (Pk.steps_append pw ok nN s).1
end
end Go.Proofs.YtdmgobffhpgjlaaGreat.Sl.Dg
end

section
namespace Go.Proofs.YtdmgobffhpgjlaaGreat.Sl.Dg
open Go.RowKit Go.PlainAid Go.Proofs.YtdmgobffhpgjlaaGreat.Cr
open Go.Proofs.YtdmgobffhpgjlaaGreat.Pk (Bs Fi Dk kl usedF delF insF updF getF PlaceIs isName)
set_option linter.unusedVariables false
set_option maxRecDepth 20000
set_option linter.unusedSimpArgs false

section
variable {D : Dk} {f : Fi}
theorem disc_none (h : getF nN D.L = none) : disc D = (0, D) := by unfold disc; rw [if_pos (by rw [size_none h]; decide)]
theorem disc_some (h : getF nN D.L = some f) : disc D = D.delete nN := by unfold disc; rw [if_neg (by rw [size_some h]; omega)]
theorem make_none (h : getF dN D.L = none) : make D = D.create dN := by unfold make; rw [if_pos (by rw [size_none h]; decide)]
theorem make_some (h : getF dN D.L = some f) : make D = (0, D) := by unfold make; rw [if_neg (by rw [size_some h]; omega)]
theorem load_used (D : Dk) : (load D).1.length ≤ usedF D.L := by
  have h1 := disc_used D
  have h2 := make_used (disc D).2
  have h3 := read_used (make (disc D).2).2 dN 0 ((make (disc D).2).2.size dN)
  unfold load
  split
  · simp
  · split
    · simp
    · split
      · simp
      · split
        · simp
        · simp only; omega
theorem load_one_of {e1 e2 e3 e4 : Int} {D1 D2 D3 D4 : Dk} {t : Bs} (hD : disc D = (e1, D1)) (hM : make D1 = (e2, D2)) (hR : D2.read dN 0 (D2.size dN) = (t, e3, D3)) (hu : usedF D.L ≤ 1000000) : t.length ≤ 1000000 := by
  have h1 := disc_used D
  have h2 := make_used D1
  have h3 := read_used D2 dN 0 (D2.size dN)
  rw [hD] at h1
  rw [hM] at h2
  rw [hR] at h3
  simp only at h1 h2 h3
  omega
end
section
variable {w0 w w' : World} {u r : Nat} {E : Dk} {X : List (Nat × Obj)}
theorem place_no (h : HasR w0 w u E X) (s : ByteArray) (hg : getF (kl s) E.L = none) : Calls Tryz.prog 39 #[.pointer (some ⟨u, 0, none⟩), .string s] w fun e w' => e = .returned (.int .i64 (-1)) ∧ w' = w :=
  (rh_place h s).mono fun e w' ⟨i, he, hp, hw⟩ => by
    rcases hp with ⟨hi, _⟩ | ⟨n, f, _, _, _, hf⟩
    · exact ⟨by rw [he, hi], hw.symm⟩
    · rw [hg] at hf; cases hf
theorem place_is (h : HasR w0 w u E X) (s : ByteArray) {n : Nat} {f : Fi} (hn : E.L[n]? = some f) (hg : getF (kl s) E.L = some f) : Calls Tryz.prog 39 #[.pointer (some ⟨u, 0, none⟩), .string s] w fun e w' => e = .returned (.int .i64 (n : Int)) ∧ w' = w :=
  (rh_place h s).mono fun e w' ⟨i, he, hp, hw⟩ => by
    rcases hp with ⟨_, hg'⟩ | ⟨m, f', hi, hm, _, hf⟩
    · rw [hg] at hg'; cases hg'
    · rw [hg] at hf
      injection hf with hf
      subst hf
      have nd : E.L.Pairwise fun x y => x.nm ≠ y.nm := h.ok.up.ne
      obtain ⟨l1, q1⟩ := List.getElem?_eq_some_iff.1 hn
      obtain ⟨l2, q2⟩ := List.getElem?_eq_some_iff.1 hm
      have nm := List.pairwise_iff_getElem.1 nd
      have : m = n := by
        rcases Nat.lt_trichotomy m n with c | c | c
        · exact absurd (by rw [q1, q2]) (nm m n l2 l1 c)
        · exact c
        · exact absurd (by rw [q1, q2]) (nm n m l1 l2 c)
      subst this
      exact ⟨by rw [he, hi], hw.symm⟩
theorem place_at {k : Bs} {l : List Fi} {f : Fi} (h : getF k l = some f) : ∃ n : Nat, l[n]? = some f := List.getElem?_of_mem (Pk.get_some h).1
end
end Go.Proofs.YtdmgobffhpgjlaaGreat.Sl.Dg
end

section
namespace Go.Proofs.YtdmgobffhpgjlaaGreat.Sl.Dg
open Go.RowKit Go.PlainAid Go.Proofs.YtdmgobffhpgjlaaGreat.Cr
open Go.Proofs.YtdmgobffhpgjlaaGreat.Pk (Bs Fi Dk kl usedF delF insF updF getF isName onL Up)
set_option linter.unusedVariables false
set_option maxRecDepth 20000
set_option linter.unusedSimpArgs false

section
variable {D : Dk}
theorem beg_zero {g : Bool} (h : (D.beg g).1 = 0) : g = true := by
  unfold Dk.beg at h
  split at h
  · simp at h
  · rename_i c
    simpa using c
theorem create_okd (ok : D.Ok) (n : Bs) : (D.create n).2.Ok := by
  obtain ⟨h1, h2, _⟩ := Pk.beg_L D (isName n)
  have hb := ok.beg (isName n)
  unfold Dk.create
  simp only
  split
  · exact hb
  · rename_i c
    split
    · exact hb
    · rename_i c2
      split
      · exact hb
      · rename_i c3
        refine hb.ins (beg_zero (by simpa using c)) (by simp) (fun x hx => ?_) (by simp; exact hb.used) (by omega)
        exact Pk.get_none (by simpa using c2) x hx
theorem append_okd (ok : D.Ok) (n s : Bs) : (D.append n s).2.Ok := by
  obtain ⟨h1, h2, _⟩ := Pk.beg_L D (isName n)
  have hb := ok.beg (isName n)
  unfold Dk.append
  simp only
  split
  · exact hb
  · split
    · exact hb
    · rename_i f hf
      split
      · exact hb
      · obtain ⟨m1, rfl⟩ := Pk.get_some hf
        have := hb.safe f m1
        exact hb.upd m1 rfl (by simp; omega) (by simp; omega)
theorem sync_okd (ok : D.Ok) (n : Bs) : (D.sync n).2.Ok := by
  have hb := ok.beg (isName n)
  unfold Dk.sync
  simp only
  split
  · exact hb
  · split
    · exact hb
    · rename_i f hf
      obtain ⟨m1, rfl⟩ := Pk.get_some hf
      have := hb.used
      exact hb.upd m1 rfl (by simp) (by simp; omega)
theorem delete_okd (ok : D.Ok) (n : Bs) : (D.delete n).2.Ok := by
  have hb := ok.beg (isName n)
  unfold Dk.delete
  simp only
  split
  · exact hb
  · split
    · exact hb
    · exact hb.del n
theorem read_okd (ok : D.Ok) (n : Bs) (a b : Int) : (D.read n a b).2.2.Ok := by
  have hb := ok.beg (isName n && decide (0 ≤ a) && decide (0 ≤ b))
  unfold Dk.read
  simp only
  split
  · exact hb
  · split
    · exact hb
    · split <;> exact hb
theorem disc_okd (ok : D.Ok) : (disc D).2.Ok := by
  unfold disc
  split
  · exact ok
  · exact delete_okd ok nN
theorem make_okd (ok : D.Ok) : (make D).2.Ok := by
  unfold make
  split
  · exact create_okd ok dN
  · exact ok
theorem fill_okd (ok : D.Ok) (s : Bs) : (fill D s).2.Ok := by
  unfold fill
  split
  · exact ok
  · exact append_okd ok nN s
theorem load_pw (pw : D.Pw) (ok : D.Ok) : (load D).2.2.Pw := by
  have p1 := disc_pw pw ok
  have k1 := disc_okd ok
  have p2 := make_pw p1 k1
  have k2 := make_okd k1
  have p3 := (Pk.steps_read p2 k2 dN 0 ((make (disc D).2).2.size dN)).1
  have k3 := read_okd k2 dN 0 ((make (disc D).2).2.size dN)
  have p4 := (Pk.steps_sync p3 k3 dN).1
  unfold load
  split
  · exact p1
  · split
    · exact p2
    · split
      · exact p3
      · split
        · exact p4
        · exact p4
theorem repl_pw (pw : D.Pw) (ok : D.Ok) (s : Bs) : (repl D s).2.Pw := by
  have p1 := disc_pw pw ok
  have k1 := disc_okd ok
  have p2 := (Pk.steps_create p1 k1 nN).1
  have k2 := create_okd k1 nN
  have p3 := fill_pw p2 k2 s
  have k3 := fill_okd k2 s
  have p4 := (Pk.steps_sync p3 k3 nN).1
  have k4 := sync_okd k3 nN
  have p5 := (Pk.steps_rename p4 k4 nN dN).1
  unfold repl
  split
  · exact p1
  · split
    · exact p2
    · split
      · exact p3
      · split
        · exact p4
        · exact p5

/-! ### how much lies on it -/
theorem create_used (n : Bs) : usedF (D.create n).2.L ≤ usedF D.L := by
  obtain ⟨h1, _⟩ := Pk.beg_L D (isName n)
  unfold Dk.create
  simp only
  split
  · rw [h1]; exact Nat.le_refl _
  · split
    · rw [h1]; exact Nat.le_refl _
    · split
      · rw [h1]; exact Nat.le_refl _
      · rw [h1, Pk.used_ins]; simp
theorem append_used (ok : D.Ok) (n s : Bs) : usedF (D.append n s).2.L ≤ usedF D.L + s.length := by
  obtain ⟨h1, _⟩ := Pk.beg_L D (isName n)
  unfold Dk.append
  simp only
  split
  · rw [h1]; omega
  · split
    · rw [h1]; omega
    · rename_i f hf
      split
      · rw [h1]; omega
      · obtain ⟨m1, rfl⟩ := Pk.get_some hf
        rw [h1] at m1 ⊢
        have := Pk.used_upd ok.up.ne m1 ⟨f.nm, f.bs ++ s, f.sf⟩
        simp only [List.length_append] at this ⊢
        omega
theorem sync_used (ok : D.Ok) (n : Bs) : usedF (D.sync n).2.L ≤ usedF D.L := by
  obtain ⟨h1, _⟩ := Pk.beg_L D (isName n)
  unfold Dk.sync
  simp only
  split
  · rw [h1]; exact Nat.le_refl _
  · split
    · rw [h1]; exact Nat.le_refl _
    · rename_i f hf
      obtain ⟨m1, rfl⟩ := Pk.get_some hf
      rw [h1] at m1 ⊢
      have := Pk.used_upd ok.up.ne m1 ⟨f.nm, f.bs, f.bs.length⟩
      simp only at this ⊢
      omega
theorem rename_used (ok : D.Ok) (n t : Bs) : usedF (D.rename n t).2.L ≤ usedF D.L := by
  obtain ⟨h1, _⟩ := Pk.beg_L D (isName n && isName t)
  unfold Dk.rename
  simp only
  split
  · rw [h1]; exact Nat.le_refl _
  · split
    · rw [h1]; exact Nat.le_refl _
    · rename_i f hf
      obtain ⟨m1, rfl⟩ := Pk.get_some hf
      rw [h1] at m1 ⊢
      have h2 := Pk.used_del ok.up.ne m1
      have h3 := used_filter (fun x => !(x.nm == t)) (delF f.nm D.L)
      rw [Pk.used_ins]
      simp only
      unfold delF at h2 h3 ⊢
      omega
theorem read_L (n : Bs) (a b : Int) : (D.read n a b).2.2.L = D.L := by
  obtain ⟨h1, _⟩ := Pk.beg_L D (isName n && decide (0 ≤ a) && decide (0 ≤ b))
  unfold Dk.read
  simp only
  split
  · exact h1
  · split
    · exact h1
    · split <;> exact h1
theorem fill_used (ok : D.Ok) (s : Bs) : usedF (fill D s).2.L ≤ usedF D.L + s.length := by
  unfold fill
  split
  · simp only; omega
  · exact append_used ok nN s
theorem load_left (ok : D.Ok) : usedF (load D).2.2.L ≤ usedF D.L := by
  have h1 := disc_used D
  have k1 := disc_okd ok
  have h2 := make_used (disc D).2
  have k2 := make_okd k1
  have h3 := read_L (D := (make (disc D).2).2) dN 0 ((make (disc D).2).2.size dN)
  have k3 := read_okd k2 dN 0 ((make (disc D).2).2.size dN)
  have h4 := sync_used k3 dN
  rw [h3] at h4
  unfold load
  split
  · exact h1
  · split
    · exact Nat.le_trans h2 h1
    · split
      · simp only; rw [h3]; exact Nat.le_trans h2 h1
      · split
        · simp only; exact Nat.le_trans h4 (Nat.le_trans h2 h1)
        · simp only; exact Nat.le_trans h4 (Nat.le_trans h2 h1)
theorem repl_used (ok : D.Ok) (s : Bs) : usedF (repl D s).2.L ≤ usedF D.L + s.length := by
  have h1 := disc_used D
  have k1 := disc_okd ok
  have h2 := create_used (D := (disc D).2) nN
  have k2 := create_okd k1 nN
  have h3 := fill_used k2 s
  have k3 := fill_okd k2 s
  have h4 := sync_used k3 nN
  have k4 := sync_okd k3 nN
  have h5 := rename_used k4 nN dN
  unfold repl
  split
  · omega
  · split
    · omega
    · split
      · omega
      · split <;> omega
theorem onL_used : ∀ (l : List Fi) (ks : List Int), usedF (onL ks l) ≤ usedF l
  | [], ks => by cases ks <;> simp [onL, usedF]
  | f :: r, ks => by
    by_cases c : f.sf = f.bs.length
    · rw [Pk.onL_same c]
      have := onL_used r ks
      simp only [usedF]
      omega
    · cases ks with
      | nil =>
        rw [Pk.onL_none c]
        have := onL_used r []
        simp only [usedF, List.length_take]
        omega
      | cons k ks =>
        rw [Pk.onL_some c]
        have := onL_used r ks
        simp only [usedF, List.length_take]
        omega
theorem on_used (ks : List Int) : usedF (D.on ks).L ≤ usedF D.L := by
  unfold Dk.on
  split
  · exact onL_used _ _
  · exact Nat.le_refl _
theorem flip_used (ok : D.Ok) (n : Bs) (pos : Int) (b : UInt8) : usedF (D.flip n pos b).2.L ≤ usedF D.L := by
  unfold Dk.flip
  split
  · exact Nat.le_refl _
  · rename_i f hf
    split
    · exact Nat.le_refl _
    · obtain ⟨m1, rfl⟩ := Pk.get_some hf
      have := Pk.used_upd ok.up.ne m1 ⟨f.nm, f.bs.set pos.toNat (f.bs.getD pos.toNat 0 ^^^ b), f.sf⟩
      simp only [List.length_set] at this ⊢
      omega

/-! ### behind k acts -/
structure Bd (D : Dk) (k : Nat) : Prop where
  pw : D.Pw
  ops : D.ops ≤ 10 * (k : Int) + 4
  used : usedF D.L ≤ 9000 * k
/-- within an act -/
structure Bm (D : Dk) (k : Nat) : Prop where
  pw : D.Pw
  ops : D.ops ≤ 10 * (k : Int) + 8
  used : usedF D.L ≤ 9000 * k + 500
structure Lb (L : Lg) (k : Nat) : Prop where
  n : 0 ≤ L.n ∧ L.n ≤ 170000 + 20 * (k : Int)
  b : 0 ≤ L.b ∧ L.b ≤ 1000000 + 9000 * (k : Int)
  s : 0 ≤ L.s ∧ L.s ≤ 170000 + 20 * (k : Int)
theorem Lb.fits {L : Lg} {k : Nat} (h : Lb L k) (hk : k ≤ 61) : L.Fits := by
  obtain ⟨h1, h2, h3⟩ := h
  exact ⟨by omega, by omega, by omega⟩
theorem Lb.up {L : Lg} {k : Nat} (h : Lb L k) : Lb L (k + 1) := by
  obtain ⟨h1, h2, h3⟩ := h
  exact ⟨by omega, by omega, by omega⟩
section
variable {k : Nat} {L : Lg}
theorem Bd.same (h : Bd D k) : Bm D k := ⟨h.pw, by have := h.ops; omega, by have := h.used; omega⟩
theorem Bm.next (h : Bm D k) : Bd D (k + 1) := ⟨h.pw, by have := h.ops; omega, by have := h.used; omega⟩
theorem bd_new (room : Int) : Bd (load (Dk.new room)).2.2 0 := by
  have h1 := load_ops (Dk.new room)
  have h2 := load_left (Pk.Dk.Ok.new room)
  refine ⟨load_pw (fun e => by simp [Dk.new] at e) (Pk.Dk.Ok.new room), ?_, ?_⟩
  · have : (Dk.new room).ops = 0 := rfl
    omega
  · have : usedF (Dk.new room).L = 0 := rfl
    omega
theorem bd_load (h : Bd D k) (ok : D.Ok) : Bm (load D).2.2 k := by
  have h1 := load_ops D
  have h2 := load_left ok
  have h3 := h.ops
  have h4 := h.used
  exact ⟨load_pw h.pw ok, by omega, by omega⟩
theorem bd_arm (h : Bd D k) (a b c : Int) : Bm (D.arm a b c) k := by
  have h1 := Pk.steps_arm D a b c
  have h3 := h.ops
  have h4 := h.used
  refine ⟨h1.1, by have := h1.2; omega, ?_⟩
  have : (D.arm a b c).L = D.L := Pk.arm_L D a b c
  rw [this]; omega
theorem bd_power (h : Bd D k) (ks : List Int) : Bm (D.offd.on ks) k := by
  have h1 := Pk.steps_off D
  have h2 := Pk.steps_on h1.1 ks
  have h3 := h.ops
  have h4 := h.used
  have h5 := on_used (D := D.offd) ks
  refine ⟨h2.1, by have := h1.2; have := h2.2; omega, ?_⟩
  have : D.offd.L = D.L := rfl
  rw [this] at h5; omega
theorem bd_flip (h : Bd D k) (ok : D.Ok) (n : Bs) (pos : Int) (b : UInt8) : Bm (D.flip n pos b).2 k := by
  have h1 := Pk.steps_flip h.pw n pos b
  have h2 := flip_used ok n pos b
  have h3 := h.ops
  have h4 := h.used
  exact ⟨h1.1, by have := h1.2; omega, by omega⟩
theorem bd_append (h : Bd D k) (ok : D.Ok) (n s : Bs) (hs : s.length ≤ 500) : Bm (D.append n s).2 k := by
  have h1 := Pk.steps_append h.pw ok n s
  have h2 := append_used ok n s
  have h3 := h.ops
  have h4 := h.used
  exact ⟨h1.1, by have := h1.2; omega, by omega⟩
theorem bd_add (h : Bm D k) (ok : D.Ok) (l : Lb L k) {x : Sp} : Bd (addL D L x).2.1 (k + 1) ∧ Lb (addL D L x).2.2 (k + 1) := by
  have h3 := h.ops
  have h4 := h.used
  obtain ⟨l1, l2, l3⟩ := l
  unfold addL
  split
  · exact ⟨h.next, Lb.up ⟨l1, l2, l3⟩⟩
  · split
    · exact ⟨h.next, Lb.up ⟨l1, l2, l3⟩⟩
    · rename_i c
      have hx : Can x := canB_iff.1 (by simpa using c)
      have hr := recB_len hx
      have s1 := Pk.steps_append h.pw ok dN (recB x)
      have s2 := append_used ok dN (recB x)
      have s3 := s1.2
      split
      · exact ⟨⟨s1.1, by simp only; omega, by simp only; omega⟩, ⟨by simp only; omega, by simp only; omega, by simp only; omega⟩⟩
      · exact ⟨⟨s1.1, by simp only; omega, by simp only; omega⟩, ⟨by simp only; omega, by simp only; omega, by simp only; omega⟩⟩
theorem bd_sync (h : Bm D k) (ok : D.Ok) (l : Lb L k) : Bd (syncL D L).2.1 (k + 1) ∧ Lb (syncL D L).2.2 (k + 1) := by
  have h3 := h.ops
  have h4 := h.used
  obtain ⟨l1, l2, l3⟩ := l
  have s1 := Pk.steps_sync h.pw ok dN
  have s2 := sync_used ok dN
  have s3 := s1.2
  unfold syncL
  split
  · exact ⟨h.next, Lb.up ⟨l1, l2, l3⟩⟩
  · split
    · exact ⟨h.next, Lb.up ⟨l1, l2, l3⟩⟩
    · split
      · exact ⟨⟨s1.1, by simp only; omega, by simp only; omega⟩, ⟨by simp only; omega, by simp only; omega, by simp only; omega⟩⟩
      · exact ⟨⟨s1.1, by simp only; omega, by simp only; omega⟩, ⟨by simp only; omega, by simp only; omega, by simp only; omega⟩⟩
theorem bd_rew (h : Bm D k) (ok : D.Ok) (l : Lb L k) {xs : List Sp} (hl : xs.length ≤ 20) : Bd (rewL D L xs).2.1 (k + 1) ∧ Lb (rewL D L xs).2.2 (k + 1) := by
  have h3 := h.ops
  have h4 := h.used
  obtain ⟨l1, l2, l3⟩ := l
  unfold rewL
  split
  · exact ⟨h.next, Lb.up ⟨l1, l2, l3⟩⟩
  · rename_i c
    have hc := allCan.1 (by simpa using c : xs.all canB = true)
    have hr := recs_len_le hc
    have hr2 := recsB_len xs
    have s1 := repl_pw h.pw ok (recsB xs)
    have s2 := repl_used ok (recsB xs)
    have s3 := repl_ops D (recsB xs)
    split
    · exact ⟨⟨s1, by simp only; omega, by simp only; omega⟩, ⟨by simp only; omega, by simp only; omega, by simp only; omega⟩⟩
    · exact ⟨⟨s1, by simp only; omega, by simp only; omega⟩, ⟨by simp only; omega, by simp only; omega, by simp only; omega⟩⟩
theorem lb_load {xs : List Sp} {n : Nat} (hu : usedF D.L ≤ 1000000) (h : Reads (nb (load D).1) xs n) (c : Bool) : Lb ⟨(xs.length : Int), (n : Int), (xs.length : Int), c⟩ k := by
  obtain ⟨h1, h2⟩ := reads_le h
  rw [nb_len] at h1
  have h3 := load_used D
  exact ⟨by simp only; omega, by simp only; omega, by simp only; omega⟩
end
end
end Go.Proofs.YtdmgobffhpgjlaaGreat.Sl.Dg
end
