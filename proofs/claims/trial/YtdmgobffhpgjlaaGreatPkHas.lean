/-
  A disk of a law's own: it lies apart from what was there ahead of the law. The calls, told of such a disk; the law's first look.
-/
import Derived.Test.YtdmgobffhpgjlaaGreatPkOn
namespace Go.Proofs.YtdmgobffhpgjlaaGreat.Pk
open Go.RowKit Go.PlainAid Go.Maps
set_option linter.unusedVariables false
set_option maxRecDepth 20000
set_option linter.unusedSimpArgs false

/-- the law's own disk; X: blocks of the law's own beside it -/
structure HasD (w0 w : World) (p : Nat) (D : Dk) (X : List (Nat × Obj)) : Prop where
  is : ∃ m G, DiskAt w p m G D ∧ (∀ b, zone p m G D.L b → w0.heap.size ≤ b) ∧ ∀ x ∈ X, w.heap[x.1]? = some x.2 ∧ ¬ zone p m G D.L x.1
  below : Below w0.heap.size w0 w
section
variable {w0 w w' : World} {p : Nat} {D D' : Dk} {f : Nat} {args : Array Value} {R : Ending → Prop} {X : List (Nat × Obj)}
theorem HasD.ok (h : HasD w0 w p D X) : D.Ok := by
  obtain ⟨m, G, hd, _⟩ := h.is
  exact hd.ok
theorem HasD.at (h : HasD w0 w p D X) {b : Nat} {o : Obj} (hx : (b, o) ∈ X) : w.heap[b]? = some o := by
  obtain ⟨m, G, _, _, hX⟩ := h.is
  exact (hX _ hx).1
theorem HasD.kept (h : HasD w0 w p D X) (hb : Below w.heap.size w w') : HasD w0 w' p D X := by
  obtain ⟨m, G, hd, hz, hX⟩ := h.is
  exact ⟨⟨m, G, hd.kept fun b z => hb.block b (hd.lt z), hz, fun x hx => ⟨by rw [hb.block x.1 (in_heap (hX x hx).1)]; exact (hX x hx).1, (hX x hx).2⟩⟩, h.below.trans (hb.mono h.below.size)⟩
theorem HasD.less (h : HasD w0 w p D X) {Y : List (Nat × Obj)} (hY : ∀ x ∈ Y, x ∈ X) : HasD w0 w p D Y := by
  obtain ⟨m, G, hd, hz, hX⟩ := h.is
  exact ⟨⟨m, G, hd, hz, fun x hx => hX x (hY x hx)⟩, h.below⟩
theorem HasD.none (h : HasD w0 w p D X) : HasD w0 w p D [] := h.less (by simp)
/-- a block that is made now is the law's own -/
theorem HasD.more (h : HasD w0 w p D X) (hb : Below w.heap.size w w') {b : Nat} {o : Obj} (hn : w.heap.size ≤ b) (ho : w'.heap[b]? = some o) : HasD w0 w' p D ((b, o) :: X) := by
  obtain ⟨m, G, hd, hz, hX⟩ := h.is
  refine ⟨⟨m, G, hd.kept fun b z => hb.block b (hd.lt z), hz, fun x hx => ?_⟩, h.below.trans (hb.mono h.below.size)⟩
  rcases List.mem_cons.1 hx with rfl | hx
  · exact ⟨ho, fun z => by have := hd.lt z; simp at this; omega⟩
  · exact ⟨by rw [hb.block x.1 (in_heap (hX x hx).1)]; exact (hX x hx).1, (hX x hx).2⟩
theorem HasD.alloc (h : HasD w0 w p D X) (o : Obj) : HasD w0 (w.alloc o) p D X := h.kept ((Below.refl _ _).alloc (Nat.le_refl _) _)
theorem HasD.drew (h : HasD w0 w p D X) : HasD w0 w.drew p D X := h.kept (Below.refl _ _).drew
theorem HasD.drewN (h : HasD w0 w p D X) (n : Nat) : HasD w0 (w.drewN n) p D X := h.kept ⟨rfl, rfl, rfl, Nat.le_refl _, fun _ _ => rfl⟩
theorem HasD.post {m : Nat} {G : Gs} (hd : DiskAt w p m G D) (hz : (∀ b, zone p m G D.L b → w0.heap.size ≤ b) ∧ ∀ x ∈ X, w.heap[x.1]? = some x.2 ∧ ¬ zone p m G D.L x.1) (hb : Below w0.heap.size w0 w) (hp : Post w w' p m G D D') : HasD w0 w' p D' X := by
  obtain ⟨G', hd', g⟩ := hp
  refine ⟨⟨m, G', hd', fun b z => ?_, fun x hx => ?_⟩, g.below hb hb.size hz.1⟩
  · rcases g.sub b z with c | c
    · exact hz.1 b c
    · exact Nat.le_trans hb.size c
  · obtain ⟨h1, h2⟩ := hz.2 x hx
    refine ⟨by rw [g.block x.1 (in_heap h1) h2]; exact h1, fun z => ?_⟩
    rcases g.sub x.1 z with c | c
    · exact h2 c
    · have := in_heap h1
      omega
theorem HasD.lift (h : HasD w0 w p D X) (c : ∀ m G, DiskAt w p m G D → Calls Tryz.prog f args w fun e w' => R e ∧ Post w w' p m G D D') : Calls Tryz.prog f args w fun e w' => R e ∧ HasD w0 w' p D' X := by
  obtain ⟨m, G, hd, hz⟩ := h.is
  exact (c m G hd).mono fun e w' ⟨r, hp⟩ => ⟨r, HasD.post hd hz h.below hp⟩
theorem HasD.same (h : HasD w0 w p D X) (hL : D'.L = D.L) (c : ∀ m G, DiskAt w p m G D → Calls Tryz.prog f args w fun e w' => R e ∧ DiskAt w' p m G D' ∧ Goes w w' (zone p m G D.L) (zone p m G D.L)) : Calls Tryz.prog f args w fun e w' => R e ∧ HasD w0 w' p D' X :=
  h.lift fun m G hd => (c m G hd).mono fun e w' ⟨r, hd', g⟩ => ⟨r, G, hd', by rw [hL]; exact g⟩
theorem HasD.asks (h : HasD w0 w p D X) {v : Value} (c : ∀ m G, DiskAt w p m G D → Calls Tryz.prog f args w fun e w' => e = .returned v ∧ w = w') : Calls Tryz.prog f args w fun e w' => e = .returned v ∧ w = w' := by
  obtain ⟨m, G, hd, _⟩ := h.is
  exact c m G hd
theorem has_new (w0 : World) {w : World} (hb : Below w0.heap.size w0 w) (room : Int) :
    Calls Tryz.prog 5 #[.int .i64 room] w fun e w' => ∃ p, e = .returned (.pointer (some ⟨p, 0, none⟩)) ∧ HasD w0 w' p (Dk.new room) [] := by
  refine (new_any room w).mono fun e w' ⟨he, hw⟩ => ⟨w.heap.size + 1, he, ?_⟩
  subst hw
  have b1 : Below w.heap.size w ((w.alloc (.map #[] 0)).alloc (.cells (headV w.heap.size (Dk.new room)) 74)) := ((Below.refl _ _).alloc (Nat.le_refl _) _).alloc (by simp) _
  refine ⟨⟨w.heap.size, fun _ => (0, .bool false), ⟨?_, ?_, by simp [Dk.new], by simp [Dk.new], Dk.Ok.new room⟩, ?_, by simp⟩, hb.trans (b1.mono hb.size)⟩
  · have := heap_alloc_new (w.alloc (.map #[] 0)) (.cells (headV w.heap.size (Dk.new room)) 74)
    simpa using this
  · exact (World.ownsMap_made w Tryz.prog 9 RF).alloc _
  · rintro b (rfl | rfl | ⟨x, hx, _⟩)
    · exact Nat.le_trans hb.size (by omega)
    · exact hb.size
    · simp [Dk.new] at hx
theorem has_create (h : HasD w0 w p D X) (ho : D.ops ≤ 1099511627776) {s : ByteArray} (hs : s.size ≤ 9223372036854775807) :
    Calls Tryz.prog 64 #[.pointer (some ⟨p, 0, none⟩), .string s] w fun e w' => e = .returned (.int .i64 (D.create (kl s)).1) ∧ HasD w0 w' p (D.create (kl s)).2 X := h.lift fun m G hd => create_any hd ho hs
theorem has_append (h : HasD w0 w p D X) (ho : D.ops ≤ 1099511627776) {s t : ByteArray} (hs : s.size ≤ 9223372036854775807) (ht : t.size ≤ 1099511627) :
    Calls Tryz.prog 19 #[.pointer (some ⟨p, 0, none⟩), .string s, .string t] w fun e w' => e = .returned (.int .i64 (D.append (kl s) (kl t)).1) ∧ HasD w0 w' p (D.append (kl s) (kl t)).2 X := h.lift fun m G hd => append_any hd ho hs ht
theorem has_read (h : HasD w0 w p D X) (ho : D.ops ≤ 1099511627776) {s : ByteArray} (hs : s.size ≤ 9223372036854775807) (pos n : Int) (hp : pos ≤ 9223372036854775807) (hn : n ≤ 9223372036854775807) :
    Calls Tryz.prog 65 #[.pointer (some ⟨p, 0, none⟩), .string s, .int .i64 pos, .int .i64 n] w fun e w' => e = .returned (.tuple #[.string ⟨(D.read (kl s) pos n).1.toArray⟩, .int .i64 (D.read (kl s) pos n).2.1]) ∧ HasD w0 w' p (D.read (kl s) pos n).2.2 X := h.lift fun m G hd => read_any hd ho hs pos n hp hn
theorem has_sync (h : HasD w0 w p D X) (ho : D.ops ≤ 1099511627776) {s : ByteArray} (hs : s.size ≤ 9223372036854775807) :
    Calls Tryz.prog 56 #[.pointer (some ⟨p, 0, none⟩), .string s] w fun e w' => e = .returned (.int .i64 (D.sync (kl s)).1) ∧ HasD w0 w' p (D.sync (kl s)).2 X := h.lift fun m G hd => sync_any hd ho hs
theorem has_rename (h : HasD w0 w p D X) (ho : D.ops ≤ 1099511627776) {s t : ByteArray} (hs : s.size ≤ 9223372036854775807) (ht : t.size ≤ 9223372036854775807) :
    Calls Tryz.prog 85 #[.pointer (some ⟨p, 0, none⟩), .string s, .string t] w fun e w' => e = .returned (.int .i64 (D.rename (kl s) (kl t)).1) ∧ HasD w0 w' p (D.rename (kl s) (kl t)).2 X := h.lift fun m G hd => rename_any hd ho hs ht
theorem has_delete (h : HasD w0 w p D X) (ho : D.ops ≤ 1099511627776) {s : ByteArray} (hs : s.size ≤ 9223372036854775807) :
    Calls Tryz.prog 89 #[.pointer (some ⟨p, 0, none⟩), .string s] w fun e w' => e = .returned (.int .i64 (D.delete (kl s)).1) ∧ HasD w0 w' p (D.delete (kl s)).2 X := h.lift fun m G hd => delete_any hd ho hs
theorem arm_L (D : Dk) (pos kind more : Int) : (D.arm pos kind more).L = D.L := by
  unfold Dk.arm
  split <;> rfl
theorem has_arm (h : HasD w0 w p D X) (ho : D.ops ≤ 1099511627776) (pos kind more : Int) (hm : more ≤ 9223372036854775807) :
    Calls Tryz.prog 11 #[.pointer (some ⟨p, 0, none⟩), .int .i64 pos, .int .i64 kind, .int .i64 more] w fun e w' => e = .returned (.tuple #[]) ∧ HasD w0 w' p (D.arm pos kind more) X := h.same (arm_L D pos kind more) fun m G hd => arm_any hd ho pos kind more hm
theorem has_off (h : HasD w0 w p D X) :
    Calls Tryz.prog 13 #[.pointer (some ⟨p, 0, none⟩)] w fun e w' => e = .returned (.tuple #[]) ∧ HasD w0 w' p D.offd X := h.same rfl fun m G hd => off_any hd
/-- numbers that lie ahead of the law, or in a block that was made just now -/
theorem on_post (h : HasD w0 w p D X) {v : Value} {ks : List Int} (hk : ∀ m G, DiskAt w p m G D → (∀ b, zone p m G D.L b → w0.heap.size ≤ b) → KeepAt w (zone p m G D.L) v ks) (hkl : ks.length ≤ 1099511627776) :
    Calls Tryz.prog 15 #[.pointer (some ⟨p, 0, none⟩), v] w fun e w' => e = .returned (.tuple #[]) ∧ HasD w0 w' p (D.on ks) X := by
  unfold Dk.on
  by_cases hoff : D.off = true
  · rw [if_pos hoff]
    obtain ⟨m, G, hd, hz⟩ := h.is
    exact (on_yes hd hoff (hk m G hd hz.1) hkl).mono fun e w' ⟨r, hp⟩ => ⟨r, HasD.post hd hz h.below hp⟩
  · rw [if_neg hoff]
    have hf : D.off = false := by simpa using hoff
    obtain ⟨m, G, hd, _⟩ := h.is
    exact (on_no hd hf v).mono fun e w' ⟨r, e'⟩ => ⟨r, e' ▸ h⟩
theorem has_on (h : HasD w0 w p D X) : Calls Tryz.prog 15 #[.pointer (some ⟨p, 0, none⟩), .slice none 0 0] w fun e w' => e = .returned (.tuple #[]) ∧ HasD w0 w' p (D.on []) X :=
  on_post h (fun m G _ _ => ⟨none, 0, rfl, Nat.le_refl _, by simp⟩) (by simp)
theorem has_on1 (h : HasD w0 w p D X) (x : Int) : Calls Tryz.prog 15 #[.pointer (some ⟨p, 0, none⟩), .slice (some ⟨w.heap.size, 0, none⟩) 1 1] (w.alloc (.cells #[.int .i64 x] 3)) fun e w' => e = .returned (.tuple #[]) ∧ HasD w0 w' p (D.on [x]) X := by
  obtain ⟨m, G, hd, hz⟩ := h.is
  unfold Dk.on
  have hA := hd.alloc (.cells #[.int .i64 x] 3)
  have hbA : Below w0.heap.size w0 (w.alloc (.cells #[.int .i64 x] 3)) := h.below.alloc h.below.size _
  have hzA : (∀ b, zone p m G D.L b → w0.heap.size ≤ b) ∧ ∀ y ∈ X, (w.alloc (.cells #[.int .i64 x] 3)).heap[y.1]? = some y.2 ∧ ¬ zone p m G D.L y.1 := ⟨hz.1, fun y hy => ⟨by rw [Below.heap_alloc _ _ _ (in_heap (hz.2 y hy).1)]; exact (hz.2 y hy).1, (hz.2 y hy).2⟩⟩
  by_cases hoff : D.off = true
  · rw [if_pos hoff]
    refine (on_yes hA hoff (ks := [x]) ⟨some ⟨w.heap.size, 0, none⟩, 1, rfl, Nat.le_refl _, fun j y hj => ?_⟩ (by simp)).mono fun e w' ⟨r, hp⟩ => ⟨r, HasD.post hA hzA hbA hp⟩
    rcases j with _ | j
    · simp at hj
      subst hj
      refine ⟨_, rfl, by simp, fun z => by have := hd.lt z; simp at this, ?_⟩
      simp [Addr.add]
    · simp at hj
  · rw [if_neg hoff]
    have hf : D.off = false := by simpa using hoff
    exact (on_no hA hf _).mono fun e w' ⟨r, e'⟩ => ⟨r, e' ▸ (h.alloc _)⟩
theorem has_size (h : HasD w0 w p D X) {s : ByteArray} (hs : s.size ≤ 9223372036854775807) : Calls Tryz.prog 66 #[.pointer (some ⟨p, 0, none⟩), .string s] w fun e w' => e = .returned (.int .i64 (D.size (kl s))) ∧ w = w' := h.asks fun m G hd => size_any hd hs
end

/-! ### the first look -/
end Go.Proofs.YtdmgobffhpgjlaaGreat.Pk
