/-
  Two disks beside each other: the program's and the document's. The calls, told of such a pair.
-/
import Derived.Test.YtdmgobffhpgjlaaGreatPkRef9
import Derived.Test.YtdmgobffhpgjlaaGreatPkRefB
import Derived.Test.YtdmgobffhpgjlaaGreatPkRef8
import Derived.Test.YtdmgobffhpgjlaaGreatPkRefE
import Derived.Test.YtdmgobffhpgjlaaGreatPkRoom

namespace Go.Proofs.YtdmgobffhpgjlaaGreat.Pk
open Go.RowKit Go.PlainAid Go.Maps
set_option linter.unusedVariables false
set_option maxRecDepth 20000
set_option linter.unusedSimpArgs false

theorem name_le {b : Bs} (h : isName b = true) : b.length ≤ 80 := by
  unfold isName at h
  simp only [decide_eq_true_eq] at h
  omega
/-- the program's disk is D, the document's is E; they lie apart; X: blocks of the law's own beside them -/
structure Both (w0 w : World) (p u : Nat) (D E : Dk) (X : List (Nat × Obj)) : Prop where
  is : ∃ m G v a mo, DiskAt w p m G D ∧ RefAt w u v a mo E ∧ (∀ b, zone p m G D.L b → w0.heap.size ≤ b) ∧ (∀ b, rzone u v b → w0.heap.size ≤ b) ∧ (∀ b, zone p m G D.L b → ¬ rzone u v b) ∧ ∀ x ∈ X, w.heap[x.1]? = some x.2 ∧ ¬ zone p m G D.L x.1 ∧ ¬ rzone u v x.1
  below : Below w0.heap.size w0 w
section
variable {w0 w w' : World} {p u : Nat} {D E D' E' : Dk} {f : Nat} {args : Array Value} {R : Ending → Prop} {X : List (Nat × Obj)}
theorem Both.ok (h : Both w0 w p u D E X) : D.Ok := by
  obtain ⟨m, G, v, a, mo, hd, _⟩ := h.is
  exact hd.ok
theorem Both.at (h : Both w0 w p u D E X) {b : Nat} {o : Obj} (hx : (b, o) ∈ X) : w.heap[b]? = some o := by
  obtain ⟨m, G, v, a, mo, _, _, _, _, _, hX⟩ := h.is
  exact (hX _ hx).1
theorem Both.kept (h : Both w0 w p u D E X) (hb : Below w.heap.size w w') : Both w0 w' p u D E X := by
  obtain ⟨m, G, v, a, mo, hd, hr, h1, h2, h3, hX⟩ := h.is
  exact ⟨⟨m, G, v, a, mo, hd.kept fun b z => hb.block b (hd.lt z), hr.kept fun b z => hb.block b (hr.lt z), h1, h2, h3, fun x hx => ⟨by rw [hb.block x.1 (in_heap (hX x hx).1)]; exact (hX x hx).1, (hX x hx).2⟩⟩, h.below.trans (hb.mono h.below.size)⟩
theorem Both.more (h : Both w0 w p u D E X) (hb : Below w.heap.size w w') {b : Nat} {o : Obj} (hn : w.heap.size ≤ b) (ho : w'.heap[b]? = some o) : Both w0 w' p u D E ((b, o) :: X) := by
  obtain ⟨m, G, v, a, mo, hd, hr, h1, h2, h3, hX⟩ := h.is
  refine ⟨⟨m, G, v, a, mo, hd.kept fun b z => hb.block b (hd.lt z), hr.kept fun b z => hb.block b (hr.lt z), h1, h2, h3, fun x hx => ?_⟩, h.below.trans (hb.mono h.below.size)⟩
  rcases List.mem_cons.1 hx with rfl | hx
  · exact ⟨ho, fun z => by have := hd.lt z; simp at this; omega, fun z => by have := hr.lt z; simp at this; omega⟩
  · exact ⟨by rw [hb.block x.1 (in_heap (hX x hx).1)]; exact (hX x hx).1, (hX x hx).2⟩
theorem Both.drew (h : Both w0 w p u D E X) : Both w0 w.drew p u D E X := h.kept (Below.refl _ _).drew
theorem Both.drewN (h : Both w0 w p u D E X) (n : Nat) : Both w0 (w.drewN n) p u D E X := h.kept ⟨rfl, rfl, rfl, Nat.le_refl _, fun _ _ => rfl⟩
/-- the program's disk is turned -/
theorem Both.post {m : Nat} {G : Gs} {v : Value} {a mo : Int} (hd : DiskAt w p m G D) (hr : RefAt w u v a mo E)
    (hz : (∀ b, zone p m G D.L b → w0.heap.size ≤ b) ∧ (∀ b, rzone u v b → w0.heap.size ≤ b) ∧ (∀ b, zone p m G D.L b → ¬ rzone u v b) ∧ ∀ x ∈ X, w.heap[x.1]? = some x.2 ∧ ¬ zone p m G D.L x.1 ∧ ¬ rzone u v x.1) (hb : Below w0.heap.size w0 w) (hp : Post w w' p m G D D') : Both w0 w' p u D' E X := by
  obtain ⟨G', hd', g⟩ := hp
  obtain ⟨h1, h2, h3, hX⟩ := hz
  have far : ∀ b, zone p m G' D'.L b → b < w.heap.size → zone p m G D.L b := fun b z l => by
    rcases g.sub b z with c | c
    · exact c
    · omega
  refine ⟨⟨m, G', v, a, mo, hd', hr.kept fun b z => g.block b (hr.lt z) fun y => h3 b y z, fun b z => ?_, h2, fun b z y => h3 b (far b z (hr.lt y)) y, fun x hx => ?_⟩, g.below hb hb.size h1⟩
  · rcases g.sub b z with c | c
    · exact h1 b c
    · exact Nat.le_trans hb.size c
  · obtain ⟨x1, x2, x3⟩ := hX x hx
    exact ⟨by rw [g.block x.1 (in_heap x1) x2]; exact x1, fun z => x2 (far x.1 z (in_heap x1)), x3⟩
/-- the document's disk is turned -/
theorem Both.rpost {m : Nat} {G : Gs} {v : Value} {a mo : Int} (hd : DiskAt w p m G D) (hr : RefAt w u v a mo E)
    (hz : (∀ b, zone p m G D.L b → w0.heap.size ≤ b) ∧ (∀ b, rzone u v b → w0.heap.size ≤ b) ∧ (∀ b, zone p m G D.L b → ¬ rzone u v b) ∧ ∀ x ∈ X, w.heap[x.1]? = some x.2 ∧ ¬ zone p m G D.L x.1 ∧ ¬ rzone u v x.1) (hb : Below w0.heap.size w0 w) (hp : RPost w w' u v E') : Both w0 w' p u D E' X := by
  obtain ⟨v', a', mo', hr', g⟩ := hp
  obtain ⟨h1, h2, h3, hX⟩ := hz
  have far : ∀ b, rzone u v' b → b < w.heap.size → rzone u v b := fun b z l => by
    rcases g.sub b z with c | c
    · exact c
    · omega
  refine ⟨⟨m, G, v', a', mo', hd.kept fun b z => g.block b (hd.lt z) fun y => h3 b z y, hr', h1, fun b z => ?_, fun b z y => h3 b z (far b y (hd.lt z)), fun x hx => ?_⟩, g.below hb hb.size h2⟩
  · rcases g.sub b z with c | c
    · exact h2 b c
    · exact Nat.le_trans hb.size c
  · obtain ⟨x1, x2, x3⟩ := hX x hx
    exact ⟨by rw [g.block x.1 (in_heap x1) x3]; exact x1, x2, fun z => x3 (far x.1 z (in_heap x1))⟩
theorem Both.lift (h : Both w0 w p u D E X) (c : ∀ m G, DiskAt w p m G D → Calls Tryz.prog f args w fun e w' => R e ∧ Post w w' p m G D D') : Calls Tryz.prog f args w fun e w' => R e ∧ Both w0 w' p u D' E X := by
  obtain ⟨m, G, v, a, mo, hd, hr, hz⟩ := h.is
  exact (c m G hd).mono fun e w' ⟨r, hp⟩ => ⟨r, Both.post hd hr hz h.below hp⟩
theorem Both.same (h : Both w0 w p u D E X) (hL : D'.L = D.L) (c : ∀ m G, DiskAt w p m G D → Calls Tryz.prog f args w fun e w' => R e ∧ DiskAt w' p m G D' ∧ Goes w w' (zone p m G D.L) (zone p m G D.L)) : Calls Tryz.prog f args w fun e w' => R e ∧ Both w0 w' p u D' E X :=
  h.lift fun m G hd => (c m G hd).mono fun e w' ⟨r, hd', g⟩ => ⟨r, G, hd', by rw [hL]; exact g⟩
theorem Both.rlift (h : Both w0 w p u D E X) (c : ∀ v a mo, RefAt w u v a mo E → Calls Tryz.prog f args w fun e w' => R e ∧ RPost w w' u v E') : Calls Tryz.prog f args w fun e w' => R e ∧ Both w0 w' p u D E' X := by
  obtain ⟨m, G, v, a, mo, hd, hr, hz⟩ := h.is
  exact (c v a mo hr).mono fun e w' ⟨r, hp⟩ => ⟨r, Both.rpost hd hr hz h.below hp⟩
theorem Both.asks (h : Both w0 w p u D E X) {v : Value} (c : ∀ m G, DiskAt w p m G D → Calls Tryz.prog f args w fun e w' => e = .returned v ∧ w = w') : Calls Tryz.prog f args w fun e w' => e = .returned v ∧ w = w' := by
  obtain ⟨m, G, v', a, mo, hd, _⟩ := h.is
  exact c m G hd
/-- the cells of the document's disk -/
theorem Both.ucell (h : Both w0 w p u D E X) : w.cell? ⟨u, 2, none⟩ = some (.int .i64 E.ops) ∧ w.cell? ⟨u, 6, none⟩ = some (.bool E.off) ∧ ∃ o cap, w.cell? ⟨u, 0, none⟩ = some (.slice o E.L.length cap) := by
  obtain ⟨m, G, v, a, mo, _, hr, _⟩ := h.is
  obtain ⟨o, cap, e, _⟩ := hr.form
  have c0 := hr.cell 0
  have c2 := hr.cell 2
  have c6 := hr.cell 6
  exact ⟨c2, c6, o, cap, by rw [← e]; exact c0⟩
theorem both_new (w0 : World) {w : World} (hb : Below w0.heap.size w0 w) (room : Int) {p : Nat} (h : HasD w0 w p (Dk.new room) []) :
    Calls Tryz.prog 6 #[.int .i64 room] w fun e w' => ∃ u, e = .returned (.pointer (some ⟨u, 0, none⟩)) ∧ Both w0 w' p u (Dk.new room) (Dk.new room) [] := by
  obtain ⟨m, G, hd, hz, _⟩ := h.is
  refine (rnew_any room w).mono fun e w' ⟨he, hw⟩ => ⟨w.heap.size, he, ?_⟩
  subst hw
  have hn := heap_alloc_new w (.cells (refV (.slice none 0 0) 0 0 (Dk.new room)) 63)
  have nz : ∀ b, rzone w.heap.size (.slice none 0 0) b → b = w.heap.size := fun b z => by
    rcases z with rfl | z
    · rfl
    · simp [Value.ownBlock] at z
  refine ⟨⟨m, G, .slice none 0 0, 0, 0, hd.alloc _, ⟨hn, World.ownsRow_nil _ _ _ _, by simp [Dk.new], by simp, by simp, by simp, Dk.Ok.new room⟩, hz, fun b z => ?_, fun b z y => ?_, by simp⟩, hb.alloc hb.size _⟩
  · rw [nz b z]; exact hb.size
  · have := hd.lt z
    rw [nz b y] at this
    omega
/-! ### the calls -/
theorem both_append (h : Both w0 w p u D E X) (ho : D.ops ≤ 1099511627776) {s t : ByteArray} (hs : s.size ≤ 9223372036854775807) (ht : t.size ≤ 1099511627) :
    Calls Tryz.prog 19 #[.pointer (some ⟨p, 0, none⟩), .string s, .string t] w fun e w' => e = .returned (.int .i64 (D.append (kl s) (kl t)).1) ∧ Both w0 w' p u (D.append (kl s) (kl t)).2 E X := h.lift fun m G hd => append_any hd ho hs ht
theorem rboth_append (h : Both w0 w p u D E X) (pw : E.Pw) (ho : E.ops ≤ 1099511627776) {s t : ByteArray} (hs : s.size ≤ 9223372036854775807) (ht : t.size ≤ 1099511627) :
    Calls Tryz.prog 20 #[.pointer (some ⟨u, 0, none⟩), .string s, .string t] w fun e w' => e = .returned (.int .i64 (E.append (kl s) (kl t)).1) ∧ Both w0 w' p u D (E.append (kl s) (kl t)).2 X := h.rlift fun v a mo hr => rappend_any hr pw ho hs ht
theorem both_arm (h : Both w0 w p u D E X) (ho : D.ops ≤ 1099511627776) (pos kind more : Int) (hm : more ≤ 9223372036854775807) :
    Calls Tryz.prog 11 #[.pointer (some ⟨p, 0, none⟩), .int .i64 pos, .int .i64 kind, .int .i64 more] w fun e w' => e = .returned (.tuple #[]) ∧ Both w0 w' p u (D.arm pos kind more) E X := h.same (arm_L D pos kind more) fun m G hd => arm_any hd ho pos kind more hm
theorem rboth_arm (h : Both w0 w p u D E X) (ho : E.ops ≤ 1099511627776) (pos kind more : Int) (hm : more ≤ 9223372036854775807) :
    Calls Tryz.prog 12 #[.pointer (some ⟨u, 0, none⟩), .int .i64 pos, .int .i64 kind, .int .i64 more] w fun e w' => e = .returned (.tuple #[]) ∧ Both w0 w' p u D (E.arm pos kind more) X := h.rlift fun v a mo hr => rarm_any hr ho pos kind more hm
theorem both_off (h : Both w0 w p u D E X) :
    Calls Tryz.prog 13 #[.pointer (some ⟨p, 0, none⟩)] w fun e w' => e = .returned (.tuple #[]) ∧ Both w0 w' p u D.offd E X := h.same rfl fun m G hd => off_any hd
theorem rboth_off (h : Both w0 w p u D E X) :
    Calls Tryz.prog 14 #[.pointer (some ⟨u, 0, none⟩)] w fun e w' => e = .returned (.tuple #[]) ∧ Both w0 w' p u D E.offd X := h.rlift fun v a mo hr => (roff_any hr).mono fun e w' ⟨r, hr', g⟩ => ⟨r, v, a, mo, hr', g⟩
/-- numbers that lie ahead of the law -/
def AheadAt (w0 : World) (v : Value) (ks : List Int) : Prop := ∃ base cap, v = .slice base ks.length cap ∧ ks.length ≤ cap ∧ ∀ j x, ks[j]? = some x → ∃ a : Addr, base = some a ∧ a.block < w0.heap.size ∧ w0.cell? (a.add j) = some (.int .i64 x)
theorem AheadAt.keep {v : Value} {ks : List Int} (h : AheadAt w0 v ks) (hb : Below w0.heap.size w0 w) {Z : Nat → Prop} (hz : ∀ b, Z b → w0.heap.size ≤ b) : KeepAt w Z v ks := by
  obtain ⟨base, cap, e, hl, hc⟩ := h
  refine ⟨base, cap, e, hl, fun j x hj => ?_⟩
  obtain ⟨a, ea, h1, h2⟩ := hc j x hj
  exact ⟨a, ea, Nat.lt_of_lt_of_le h1 hb.size, fun z => by have := hz _ z; omega, by rw [hb.cell (by rw [add_block]; exact h1)]; exact h2⟩
theorem both_flip (h : Both w0 w p u D E X) {s : ByteArray} (hs : s.size ≤ 9223372036854775807) (pos : Int) (hp : pos ≤ 9223372036854775807) (b : UInt8) :
    Calls Tryz.prog 17 #[.pointer (some ⟨p, 0, none⟩), .string s, .int .i64 pos, .int .u8 (b.toNat : Int)] w fun e w' => e = .returned (.bool (D.flip (kl s) pos b).1) ∧ Both w0 w' p u (D.flip (kl s) pos b).2 E X := h.lift fun m G hd => flip_any hd hs pos hp b
theorem rboth_flip (h : Both w0 w p u D E X) {s : ByteArray} (pos : Int) (hp : pos ≤ 9223372036854775807) (b : UInt8) :
    Calls Tryz.prog 18 #[.pointer (some ⟨u, 0, none⟩), .string s, .int .i64 pos, .int .u8 (b.toNat : Int)] w fun e w' => e = .returned (.bool (E.flip (kl s) pos b).1) ∧ Both w0 w' p u D (E.flip (kl s) pos b).2 X := h.rlift fun v a mo hr => rflip_any hr pos hp b
theorem both_list (h : Both w0 w p u D E X) : Calls Tryz.prog 31 #[.pointer (some ⟨p, 0, none⟩)] w fun e w' => ∃ v, e = .returned v ∧ NmAt w' w.heap.size v D.L ∧ Both w0 w' p u D E X ∧ Below w.heap.size w w' := by
  obtain ⟨m, G, v, a, mo, hd, _⟩ := h.is
  exact (list_any hd).mono fun e w' ⟨v, r, hn, hb⟩ => ⟨v, r, hn, h.kept hb, hb⟩
theorem both_ops (h : Both w0 w p u D E X) : Calls Tryz.prog 32 #[.pointer (some ⟨p, 0, none⟩)] w fun e w' => e = .returned (.int .i64 D.ops) ∧ w = w' := h.asks fun m G hd => ops_any hd
theorem both_safe (h : Both w0 w p u D E X) {f : Fi} (hf : f ∈ D.L) : Calls Tryz.prog 34 #[.pointer (some ⟨p, 0, none⟩), .string (nmB f.nm)] w fun e w' => e = .returned (.int .i64 (f.sf : Int)) ∧ w = w' := by
  have n1 := name_le (h.ok.names f hf)
  have := h.asks fun m G hd => safe_any hd (s := nmB f.nm) (by rw [nmB_size]; omega)
  rw [kl_nmB, (size_at h.ok.up hf).2.2] at this
  exact this
theorem both_bytes (h : Both w0 w p u D E X) {f : Fi} (hf : f ∈ D.L) : Calls Tryz.prog 33 #[.pointer (some ⟨p, 0, none⟩), .string (nmB f.nm)] w fun e w' => e = .returned (.string (nmB f.bs)) ∧ w = w' := by
  have n1 := name_le (h.ok.names f hf)
  have := h.asks fun m G hd => bytes_any hd (s := nmB f.nm) (by rw [nmB_size]; omega)
  rw [kl_nmB, (size_at h.ok.up hf).2.1] at this
  exact this
end
/-! ### what a call does to the count of operations and to a fault that is armed -/
section
variable {D : Dk}
def Steps (D D' : Dk) : Prop := D'.Pw ∧ D'.ops ≤ D.ops + 1
theorem steps_create (pw : D.Pw) (ok : D.Ok) (s : Bs) : Steps D (D.create s).2 := by
  have b := pw.beg ok (isName s)
  have c := (beg_L D (isName s)).2.2.1
  unfold Dk.create
  simp only
  repeat' split
  all_goals exact ⟨b, c⟩
theorem steps_append (pw : D.Pw) (ok : D.Ok) (s t : Bs) : Steps D (D.append s t).2 := by
  have b := pw.beg ok (isName s)
  have c := (beg_L D (isName s)).2.2.1
  unfold Dk.append
  simp only
  repeat' split
  all_goals exact ⟨b, c⟩
theorem steps_read (pw : D.Pw) (ok : D.Ok) (s : Bs) (pos n : Int) : Steps D (D.read s pos n).2.2 := by
  have b := pw.beg ok (isName s && decide (0 ≤ pos) && decide (0 ≤ n))
  have c := (beg_L D (isName s && decide (0 ≤ pos) && decide (0 ≤ n))).2.2.1
  unfold Dk.read
  simp only
  repeat' split
  all_goals exact ⟨b, c⟩
theorem steps_sync (pw : D.Pw) (ok : D.Ok) (s : Bs) : Steps D (D.sync s).2 := by
  have b := pw.beg ok (isName s)
  have c := (beg_L D (isName s)).2.2.1
  unfold Dk.sync
  simp only
  repeat' split
  all_goals exact ⟨b, c⟩
theorem steps_rename (pw : D.Pw) (ok : D.Ok) (s t : Bs) : Steps D (D.rename s t).2 := by
  have b := pw.beg ok (isName s && isName t)
  have c := (beg_L D (isName s && isName t)).2.2.1
  unfold Dk.rename
  simp only
  repeat' split
  all_goals exact ⟨b, c⟩
theorem steps_delete (pw : D.Pw) (ok : D.Ok) (s : Bs) : Steps D (D.delete s).2 := by
  have b := pw.beg ok (isName s)
  have c := (beg_L D (isName s)).2.2.1
  unfold Dk.delete
  simp only
  repeat' split
  all_goals exact ⟨b, c⟩
theorem steps_arm (D : Dk) (pos kind more : Int) : Steps D (D.arm pos kind more) := by
  unfold Dk.arm
  split
  · exact ⟨fun e => by simp at e, by simp; omega⟩
  · exact ⟨fun e => by simp; omega, by simp; omega⟩
theorem steps_off (D : Dk) : Steps D D.offd := ⟨fun e => by simp [Dk.offd] at e, by simp [Dk.offd]; omega⟩
theorem steps_none (pw : D.Pw) : Steps D D := ⟨pw, by omega⟩
theorem steps_on (pw : D.Pw) (ks : List Int) : Steps D (D.on ks) := by
  unfold Dk.on
  split
  · exact ⟨pw, by simp; omega⟩
  · exact steps_none pw
theorem steps_flip (pw : D.Pw) (s : Bs) (pos : Int) (b : UInt8) : Steps D (D.flip s pos b).2 := by
  unfold Dk.flip
  repeat' split
  all_goals exact ⟨pw, by simp; omega⟩
end
def byteOf (b : Int) : UInt8 := UInt8.ofNat (b % 256).toNat
theorem byte_wrap (b : Int) : IntKind.u8.wrap b = ((byteOf b).toNat : Int) := by
  unfold byteOf
  rw [UInt8.toNat_ofNat']
  have e : IntKind.u8.wrap b = b % 256 := by rw [IntKind.wrap_u8]
  rw [e]
  omega
end Go.Proofs.YtdmgobffhpgjlaaGreat.Pk
