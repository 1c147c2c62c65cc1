/-
  Requests as they come, in memory: the struct's cells, its row of bytes, the fields of the request that was read, its chunks; what turns, what stays.
-/
import Derived.Test.YtdldoklkenhopaaGreatDoorInAsk
import Derived.Test.YtdldoklkenhopaaGreatDoorInRow
namespace Go.Proofs.YtdldoklkenhopaaGreatDoor.In
open Go.RowKit Go.PlainAid
open Hx Fi Ch
set_option linter.unusedVariables false
set_option maxRecDepth 20000
set_option linter.unusedSimpArgs false

/-! ### rows of fields -/
def FB (v : Value) (xs : List Fi.Fd) (b : Nat) : Prop := xs ≠ [] ∧ v.ownBlock = some b
theorem FB.nil (v : Value) (b : Nat) : ¬ FB v [] b := fun h => h.1 rfl
theorem fds_lt {w : World} {v : Value} {xs : List Fi.Fd} (h : FdsAt w v xs) {b : Nat} (hb : FB v xs b) : b < w.heap.size := by
  obtain ⟨base, cap, rfl, hl, hc⟩ := h.is
  obtain ⟨hne, ho⟩ := hb
  cases xs with
  | nil => exact absurd rfl hne
  | cons x xs =>
    obtain ⟨a, rfl, ha, _⟩ := hc 0 x rfl
    simp [Value.ownBlock] at ho
    subst ho
    exact ha
theorem fds_kept {w w' : World} {v : Value} {xs : List Fi.Fd} (h : FdsAt w v xs) (hs : w.heap.size ≤ w'.heap.size) (hb : ∀ b, FB v xs b → w'.heap[b]? = w.heap[b]?) : FdsAt w' v xs := by
  obtain ⟨base, cap, rfl, hl, hc⟩ := h.is
  refine ⟨base, cap, rfl, hl, fun j x hj => ?_⟩
  obtain ⟨a, rfl, ha, hcell⟩ := hc j x hj
  refine ⟨a, rfl, Nat.lt_of_lt_of_le ha hs, fun i c hi => ?_⟩
  rw [World.cell?_of_block (w := w) (by rw [add_block, add_block]; exact hb _ ⟨(fun e => by rw [e] at hj; cases hj), rfl⟩)]
  exact hcell i c hi

/-! ### the struct -/
def inV (c : I) (u fv ch : Value) : Array Value := #[.int .i64 c.st, u, .int .i64 c.asked, .int .i64 c.rd, .string (tx c.q.m), .string (tx c.q.t), fv, .bool c.q.cl, .int .i64 c.due, ch, .int .i64 c.wr]
def ChkAt (w : World) (ch : Value) (Zc : Nat → Prop) : Option CS → Prop
  | none => ch = .pointer none ∧ ∀ b, ¬ Zc b
  | some R => ∃ pc, ch = .pointer (some ⟨pc, 0, none⟩) ∧ Of w pc Zc 4096 R
theorem ChkAt.lt {w : World} {ch : Value} {Zc : Nat → Prop} {R : Option CS} (h : ChkAt w ch Zc R) {b : Nat} (hb : Zc b) : b < w.heap.size := by
  cases R with
  | none => exact absurd hb (h.2 b)
  | some R => obtain ⟨pc, _, ho⟩ := h; exact ho.lt b hb
theorem of_kept {w w' : World} {p : Nat} {Z : Nat → Prop} {most : Nat} {s : CS} (h : Of w p Z most s) (hs : w.heap.size ≤ w'.heap.size) (hb : ∀ b, Z b → w'.heap[b]? = w.heap[b]?) : Of w' p Z most s := by
  obtain ⟨c, ⟨x, y, z, H⟩, st⟩ := h
  exact ⟨c, ⟨x, y, z, H.kept hs hb⟩, st⟩
theorem ChkAt.kept {w w' : World} {ch : Value} {Zc : Nat → Prop} {R : Option CS} (h : ChkAt w ch Zc R) (hs : w.heap.size ≤ w'.heap.size) (hb : ∀ b, Zc b → w'.heap[b]? = w.heap[b]?) : ChkAt w' ch Zc R := by
  cases R with
  | none => exact h
  | some R => obtain ⟨pc, e, ho⟩ := h; exact ⟨pc, e, of_kept ho hs hb⟩
structure InAt (w : World) (p : Nat) (u fv ch : Value) (Zc Z : Nat → Prop) (c : I) : Prop where
  at_ : At w p 52 (inV c u fv ch)
  row : Win w u c.l2
  fds : FdsAt w fv c.q.fs
  chk : ChkAt w ch Zc c.R
  zp : Z p
  zu : ∀ b, u.ownBlock = some b → Z b
  zf : ∀ b, FB fv c.q.fs b → Z b
  zc : ∀ b, Zc b → Z b
  pf : ¬ FB fv c.q.fs p
  pc : ¬ Zc p
  uf : ∀ b, u.ownBlock = some b → ¬ FB fv c.q.fs b
  uc : ∀ b, u.ownBlock = some b → ¬ Zc b
  fc : ∀ b, FB fv c.q.fs b → ¬ Zc b
  lt : ∀ b, Z b → b < w.heap.size
def Has (w : World) (p : Nat) (Z : Nat → Prop) (c : I) : Prop := ∃ u fv ch Zc, InAt w p u fv ch Zc Z c
def Post (w w' : World) (p : Nat) (Z : Nat → Prop) (c : I) : Prop := ∃ Z', Has w' p Z' c ∧ Goes w w' Z Z'
section
variable {w w' w1 : World} {p : Nat} {u fv ch : Value} {Zc Z : Nat → Prop} {c : I}
theorem Post.trans {w2 : World} {Z1 : Nat → Prop} (g : Goes w w1 Z Z1) (h : Post w1 w2 p Z1 c) : Post w w2 p Z c := by
  obtain ⟨Z2, h, k⟩ := h
  exact ⟨Z2, h, g.trans k⟩
theorem InAt.kept (h : InAt w p u fv ch Zc Z c) (hs : w.heap.size ≤ w'.heap.size) (hb : ∀ b, Z b → w'.heap[b]? = w.heap[b]?) : InAt w' p u fv ch Zc Z c :=
  { h with at_ := h.at_.same (hb p h.zp), row := h.row.same fun b e => hb b (h.zu b e), fds := fds_kept h.fds hs fun b e => hb b (h.zf b e), chk := h.chk.kept hs fun b e => hb b (h.zc b e), lt := fun b e => Nat.lt_of_lt_of_le (h.lt b e) hs }
theorem InAt.old (h : InAt w p u fv ch Zc Z c) (hb : Below w.heap.size w w') : InAt w' p u fv ch Zc Z c := h.kept hb.size fun b hz => hb.block b (h.lt b hz)
theorem InAt.drew (h : InAt w p u fv ch Zc Z c) : InAt w.drew p u fv ch Zc Z c := h.kept (Nat.le_refl _) fun _ _ => rfl
theorem Has.kept (h : Has w p Z c) (hs : w.heap.size ≤ w'.heap.size) (hb : ∀ b, Z b → w'.heap[b]? = w.heap[b]?) : Has w' p Z c := by
  obtain ⟨u, fv, ch, Zc, H⟩ := h
  exact ⟨u, fv, ch, Zc, H.kept hs hb⟩
theorem Has.old (h : Has w p Z c) (hb : Below w.heap.size w w') : Has w' p Z c := by
  obtain ⟨u, fv, ch, Zc, H⟩ := h
  exact ⟨u, fv, ch, Zc, H.old hb⟩
theorem Has.lt (h : Has w p Z c) : ∀ b, Z b → b < w.heap.size := by
  obtain ⟨u, fv, ch, Zc, H⟩ := h
  exact H.lt
theorem u_ne (h : InAt w p u fv ch Zc Z c) {b : Nat} (hb : u.ownBlock = some b) : b ≠ p := by
  obtain ⟨cur, hc⟩ := h.row.block hb
  exact kind_ne hc h.at_.heap (fun e => by injection e with _ e _; exact absurd e (by decide))
/-- the struct's cells turn, its row of bytes may move -/
theorem InAt.cells (h : InAt w p u fv ch Zc Z c) {ds : Array Value} {u' : Value} {c' : I} (hx : At w' p 52 (inV c' u' fv ch)) (ho : ∀ b, b ≠ p → w'.heap[b]? = w.heap[b]?) (hs : w'.heap.size = w.heap.size) (os : w'.os = w.os) (tp : w'.tape = w.tape) (op : w'.output = w.output)
    (hu : u'.ownBlock = u.ownBlock ∨ u'.ownBlock = none) (hr : Win w u' c'.l2) (hq : c'.q.fs = c.q.fs) (hR : c'.R = c.R) : InAt w' p u' fv ch Zc Z c' ∧ Goes w w' Z Z := by
  have e : ∀ b, u'.ownBlock = some b → u.ownBlock = some b := fun b hb => by
    rcases hu with h1 | h1
    · rw [← h1]; exact hb
    · rw [h1] at hb; cases hb
  have k1 : ∀ b, FB fv c.q.fs b → b ≠ p := fun b hb e => h.pf (by rw [← e]; exact hb)
  have k2 : ∀ b, Zc b → b ≠ p := fun b hb e => h.pc (by rw [← e]; exact hb)
  refine ⟨⟨hx, hr.same fun b hb => ho b (u_ne h (e b hb)), by rw [hq]; exact fds_kept h.fds (by omega) fun b hb => ho b (k1 b hb), by rw [hR]; exact h.chk.kept (by omega) fun b hb => ho b (k2 b hb), h.zp, fun b hb => h.zu b (e b hb), by rw [hq]; exact h.zf, h.zc, by rw [hq]; exact h.pf, h.pc, fun b hb => by rw [hq]; exact h.uf b (e b hb), fun b hb => h.uc b (e b hb), by rw [hq]; exact h.fc, fun b hb => by have := h.lt b hb; omega⟩, ?_⟩
  exact ⟨os, tp, op, by omega, fun b hb hn => ho b fun e => hn (by rw [e]; exact h.zp), fun b hb => .inl hb⟩
/-- one of its numbers is another one -/
theorem InAt.num (h : InAt w p u fv ch Zc Z c) (j : Nat) (v : Value) {c' : I} (e : (inV c u fv ch).setIfInBounds j v = inV c' u fv ch) (e1 : c'.l2 = c.l2) (e2 : c'.q.fs = c.q.fs) (e3 : c'.R = c.R) :
    InAt (w.setCell ⟨p, j, none⟩ v) p u fv ch Zc Z c' ∧ Goes w (w.setCell ⟨p, j, none⟩ v) Z Z :=
  h.cells (ds := inV c u fv ch) (by rw [← e]; exact h.at_.set j v) (fun b hb => Below.heap_setCell _ _ _ _ hb) (by simp) rfl rfl rfl (.inl rfl) (by rw [e1]; exact h.row) e2 e3
/-- its bytes begin later -/
theorem InAt.cut (h : InAt w p u fv ch Zc Z c) (n : Nat) {u' : Value} (hr : Win w u' (c.l2.drop n)) (hu : u'.ownBlock = u.ownBlock) :
    InAt (w.setCell ⟨p, 1, none⟩ u') p u' fv ch Zc Z { c with l2 := c.l2.drop n } ∧ Goes w (w.setCell ⟨p, 1, none⟩ u') Z Z :=
  h.cells (ds := inV c u fv ch) (c' := { c with l2 := c.l2.drop n }) (h.at_.set 1 u') (fun b hb => Below.heap_setCell _ _ _ _ hb) (by simp) rfl rfl rfl (.inl hu) hr rfl rfl
/-- bytes more: w1 is w but for its row of bytes, or a new one -/
theorem InAt.app (h : InAt w p u fv ch Zc Z c) {u' : Value} {l' : List UInt8} (g : w.grownBy w1 u.ownBlock) (r : Win w1 u' l') (hl : Lies w u u') :
    InAt (w1.setCell ⟨p, 1, none⟩ u') p u' fv ch Zc (Zn Z u') { c with l2 := l' } ∧ Goes w (w1.setCell ⟨p, 1, none⟩ u') Z (Zn Z u') := by
  have lt1 : ∀ b, u'.ownBlock = some b → b < w1.heap.size := fun b hb => r.lt hb
  have far : ∀ b, b < w.heap.size → u.ownBlock ≠ some b → w1.heap[b]? = w.heap[b]? := fun b hb hn => g.block b hb fun e => hn e.symm
  have pu : u.ownBlock ≠ some p := fun e => u_ne h e rfl
  have hp1 : At w1 p 52 (inV c u fv ch) := h.at_.same (far p h.at_.lt pu)
  have hset : ∀ b, b ≠ p → (w1.setCell ⟨p, 1, none⟩ u').heap[b]? = w1.heap[b]? := fun b hb => Below.heap_setCell _ _ _ _ hb
  have sz : (w1.setCell ⟨p, 1, none⟩ u').heap.size = w1.heap.size := by simp
  have u'p : ∀ b, u'.ownBlock = some b → b ≠ p := fun b hb => by
    rcases hl with e | e
    · exact u_ne h (by rw [← e]; exact hb)
    · have := e b hb
      have := h.at_.lt
      omega
  have out : ∀ {Y : Nat → Prop}, (∀ b, Y b → b < w.heap.size) → (∀ b, u.ownBlock = some b → ¬ Y b) → ∀ b, u'.ownBlock = some b → ¬ Y b := fun {Y} h1 h2 b hb hy => by
    rcases hl with e | e
    · exact h2 b (by rw [← e]; exact hb) hy
    · have := e b hb
      have := h1 b hy
      omega
  have kf : ∀ b, FB fv c.q.fs b → (w1.setCell ⟨p, 1, none⟩ u').heap[b]? = w.heap[b]? := fun b hb =>
    (hset b fun e => h.pf (by rw [← e]; exact hb)).trans (far b (fds_lt h.fds hb) fun e => h.uf b e hb)
  have kc : ∀ b, Zc b → (w1.setCell ⟨p, 1, none⟩ u').heap[b]? = w.heap[b]? := fun b hb =>
    (hset b fun e => h.pc (by rw [← e]; exact hb)).trans (far b (h.chk.lt hb) fun e => h.uc b e hb)
  refine ⟨⟨hp1.set 1 u', r.same fun b hb => hset b (u'p b hb), fds_kept h.fds (by rw [sz]; exact g.size) kf, h.chk.kept (by rw [sz]; exact g.size) kc, .inl h.zp, fun b hb => .inr hb, fun b hb => .inl (h.zf b hb), fun b hb => .inl (h.zc b hb), h.pf, h.pc, out (fun b hb => fds_lt h.fds hb) h.uf, out (fun b hb => h.chk.lt hb) h.uc, h.fc, ?_⟩, ?_⟩
  · rintro b (hb | hb)
    · have := h.lt b hb
      have := g.size
      omega
    · have := lt1 b hb
      omega
  · refine ⟨g.os, g.tape, g.output, by rw [sz]; exact g.size, fun b hb hn => ?_, ?_⟩
    · exact (hset b fun e => hn (by rw [e]; exact h.zp)).trans (far b hb fun e => hn (h.zu b e))
    · rintro b (hb | hb)
      · exact .inl hb
      · rcases hl with e | e
        · exact .inl (h.zu b (by rw [← e]; exact hb))
        · exact .inr (e b hb)
/-- a request is laid down: its fields lie elsewhere -/
theorem InAt.req (h : InAt w p u fv ch Zc Z c) (q : Rq) {v : Value} (hv : FdsAt w v q.fs) (hn : ∀ b, FB v q.fs b → ¬ Z b) :
    InAt (w.setRow p (inV { c with q := q } u v ch)) p u v ch Zc (fun b => Z b ∨ FB v q.fs b) { c with q := q } ∧ ∀ w0 : World, w0.heap.size ≤ w.heap.size → (∀ b, FB v q.fs b → w0.heap.size ≤ b) → Goes w0 w Z Z → Goes w0 (w.setRow p (inV { c with q := q } u v ch)) Z (fun b => Z b ∨ FB v q.fs b) := by
  have ho : ∀ b, b ≠ p → (w.setRow p (inV { c with q := q } u v ch)).heap[b]? = w.heap[b]? := fun b hb => heap_setRow_other hb
  have sz : (w.setRow p (inV { c with q := q } u v ch)).heap.size = w.heap.size := by simp
  refine ⟨⟨h.at_.row _, h.row.same fun b hb => ho b (u_ne h hb), fds_kept hv (by omega) fun b hb => ho b fun e => hn b hb (by rw [e]; exact h.zp), h.chk.kept (by omega) fun b hb => ho b fun e => h.pc (by rw [← e]; exact hb), .inl h.zp, fun b hb => .inl (h.zu b hb), fun b hb => .inr hb, fun b hb => .inl (h.zc b hb), fun hb => hn p hb h.zp, h.pc, fun b hb hf => hn b hf (h.zu b hb), h.uc, fun b hf hb => hn b hf (h.zc b hb), ?_⟩, ?_⟩
  · rintro b (hb | hb)
    · have := h.lt b hb; omega
    · have := fds_lt hv hb; omega
  · intro w0 hw hb g
    refine ⟨g.os, g.tape, g.output, by rw [sz]; exact g.size, fun b h1 h2 => (ho b fun e => h2 (by rw [e]; exact h.zp)).trans (g.block b h1 h2), ?_⟩
    rintro b (hz | hz)
    · exact .inl hz
    · exact .inr (hb b hz)
/-- chunks are begun: w has them in a zone of their own -/
theorem InAt.chunk (h : InAt w p u fv ch Zc Z c) {pc : Nat} {Y : Nat → Prop} {R : CS} (ho : Of w pc Y 4096 R) (hn : ∀ b, Y b → ¬ Z b) :
    InAt (w.setCell ⟨p, 9, none⟩ (.pointer (some ⟨pc, 0, none⟩))) p u fv (.pointer (some ⟨pc, 0, none⟩)) Y (fun b => Z b ∨ Y b) { c with R := some R } ∧ ∀ w0 : World, (∀ b, Y b → w0.heap.size ≤ b) → Goes w0 w Z Z → Goes w0 (w.setCell ⟨p, 9, none⟩ (.pointer (some ⟨pc, 0, none⟩))) Z (fun b => Z b ∨ Y b) := by
  have hb : ∀ b, b ≠ p → (w.setCell ⟨p, 9, none⟩ (.pointer (some ⟨pc, 0, none⟩))).heap[b]? = w.heap[b]? := fun b hb => Below.heap_setCell _ _ _ _ hb
  have sz : (w.setCell ⟨p, 9, none⟩ (.pointer (some ⟨pc, 0, none⟩))).heap.size = w.heap.size := by simp
  refine ⟨⟨h.at_.set 9 _, h.row.same fun b e => hb b (u_ne h e), fds_kept h.fds (by omega) fun b e => hb b fun e2 => h.pf (by rw [← e2]; exact e), ⟨pc, rfl, of_kept ho (by omega) fun b e => hb b fun e2 => hn b e (by rw [e2]; exact h.zp)⟩, .inl h.zp, fun b e => .inl (h.zu b e), fun b e => .inl (h.zf b e), fun b e => .inr e, h.pf, fun e => hn p e h.zp, h.uf, fun b e e2 => hn b e2 (h.zu b e), fun b e e2 => hn b e2 (h.zf b e), ?_⟩, ?_⟩
  · rintro b (e | e)
    · have := h.lt b e; omega
    · have := ho.lt b e; omega
  · intro w0 hy g
    refine ⟨g.os, g.tape, g.output, by rw [sz]; exact g.size, fun b h1 h2 => (hb b fun e => h2 (by rw [e]; exact h.zp)).trans (g.block b h1 h2), ?_⟩
    rintro b (hz | hz)
    · exact .inl hz
    · exact .inr (hy b hz)
/-- its chunks have turned -/
theorem InAt.fed (h : InAt w p u fv ch Zc Z c) {pc : Nat} {Y : Nat → Prop} {R : CS} (ho : Of w' pc Y 4096 R) (hc : ch = .pointer (some ⟨pc, 0, none⟩)) (g : Goes w w' Zc Y) :
    InAt w' p u fv ch Y (fun b => Z b ∨ Y b) { c with R := some R } ∧ Goes w w' Z (fun b => Z b ∨ Y b) := by
  have hb : ∀ b, b < w.heap.size → ¬ Zc b → w'.heap[b]? = w.heap[b]? := g.block
  have out : ∀ {X : Nat → Prop}, (∀ b, X b → b < w.heap.size) → (∀ b, X b → ¬ Zc b) → ∀ b, X b → ¬ Y b := fun {X} h1 h2 b hx hy => by
    rcases g.sub b hy with e | e
    · exact h2 b hx e
    · have := h1 b hx; omega
  have lu : ∀ b, u.ownBlock = some b → b < w.heap.size := fun b e => h.row.lt e
  refine ⟨⟨h.at_.same (hb p h.at_.lt h.pc), h.row.same fun b e => hb b (lu b e) (h.uc b e), fds_kept h.fds g.size fun b e => hb b (fds_lt h.fds e) (h.fc b e), ⟨pc, hc, ho⟩, .inl h.zp, fun b e => .inl (h.zu b e), fun b e => .inl (h.zf b e), fun b e => .inr e, h.pf, fun e => out (X := fun b => b = p) (fun b e => by rw [e]; exact h.at_.lt) (fun b e => by rw [e]; exact h.pc) p rfl e, h.uf, out lu h.uc, out (fun b e => fds_lt h.fds e) h.fc, ?_⟩, ?_⟩
  · rintro b (e | e)
    · have := h.lt b e
      have := g.size
      omega
    · exact ho.lt b e
  · refine ⟨g.os, g.tape, g.output, g.size, fun b h1 h2 => hb b h1 fun e => h2 (h.zc b e), ?_⟩
    rintro b (e | e)
    · exact .inl e
    · rcases g.sub b e with e | e
      · exact .inl (h.zc b e)
      · exact .inr e
/-- nothing but its bytes is kept, or not even these -/
theorem InAt.reset (h : InAt w p u fv ch Zc Z c) {c' : I} {u' : Value} (hu : u'.ownBlock = u.ownBlock ∨ u'.ownBlock = none) (hr : Win w u' c'.l2) (hq : c'.q.fs = []) (hR : c'.R = none) :
    InAt (w.setRow p (inV c' u' (.slice none 0 0) (.pointer none))) p u' (.slice none 0 0) (.pointer none) (fun _ => False) (fun b => b = p ∨ u'.ownBlock = some b) c' ∧ Goes w (w.setRow p (inV c' u' (.slice none 0 0) (.pointer none))) Z (fun b => b = p ∨ u'.ownBlock = some b) := by
  have e : ∀ b, u'.ownBlock = some b → u.ownBlock = some b := fun b hb => by
    rcases hu with h1 | h1
    · rw [← h1]; exact hb
    · rw [h1] at hb; cases hb
  have ho : ∀ b, b ≠ p → (w.setRow p (inV c' u' (.slice none 0 0) (.pointer none))).heap[b]? = w.heap[b]? := fun b hb => heap_setRow_other hb
  have sz : (w.setRow p (inV c' u' (.slice none 0 0) (.pointer none))).heap.size = w.heap.size := by simp
  refine ⟨⟨h.at_.row _, hr.same fun b hb => ho b (u_ne h (e b hb)), by rw [hq]; exact none_fds _, by rw [hR]; exact ⟨rfl, fun _ h => h⟩, .inl rfl, fun b hb => .inr hb, fun b hb => absurd hb (by rw [hq]; exact FB.nil _ _), fun b hb => hb.elim, by rw [hq]; exact FB.nil _ _, fun h => h, fun b _ => by rw [hq]; exact FB.nil _ _, fun b _ h => h, fun b _ h => h, ?_⟩, ?_⟩
  · rintro b (hb | hb)
    · rw [hb, sz]; exact h.at_.lt
    · rw [sz]; exact h.row.lt (e b hb)
  · refine ⟨rfl, rfl, rfl, by omega, fun b h1 h2 => ho b fun e => h2 (by rw [e]; exact h.zp), ?_⟩
    rintro b (hb | hb)
    · exact .inl (by rw [hb]; exact h.zp)
    · exact .inl (h.zu b (e b hb))
/-! ### its cells -/
theorem InAt.c0 (h : InAt w p u fv ch Zc Z c) : w.cell? ⟨p, 0, none⟩ = some (.int .i64 c.st) := h.at_.cell 0
theorem InAt.c1 (h : InAt w p u fv ch Zc Z c) : w.cell? ⟨p, 1, none⟩ = some u := h.at_.cell 1
theorem InAt.c2 (h : InAt w p u fv ch Zc Z c) : w.cell? ⟨p, 2, none⟩ = some (.int .i64 c.asked) := h.at_.cell 2
theorem InAt.c3 (h : InAt w p u fv ch Zc Z c) : w.cell? ⟨p, 3, none⟩ = some (.int .i64 c.rd) := h.at_.cell 3
theorem InAt.c8 (h : InAt w p u fv ch Zc Z c) : w.cell? ⟨p, 8, none⟩ = some (.int .i64 c.due) := h.at_.cell 8
theorem InAt.c9 (h : InAt w p u fv ch Zc Z c) : w.cell? ⟨p, 9, none⟩ = some ch := h.at_.cell 9
theorem InAt.c10 (h : InAt w p u fv ch Zc Z c) : w.cell? ⟨p, 10, none⟩ = some (.int .i64 c.wr) := h.at_.cell 10
theorem InAt.fz (h : InAt w p u fv ch Zc Z c) (j : Nat) : w.frozen? ⟨p, j, none⟩ = false := h.at_.frozen j
/-- its request is read, or laid down -/
def rqV (q : Rq) (fv : Value) : Array Value := #[.string (tx q.m), .string (tx q.t), fv, .bool q.cl]
theorem InAt.rq_loads (h : InAt w p u fv ch Zc Z c) : Loads Tryz.prog w 36 ⟨p, 4, none⟩ (rqV c.q fv) :=
  loads_part (P := Tryz.prog) (ty := 36) (off := 4) (n := 4) h.at_.heap (by kernel_rfl) (by kernel_rfl) (by show 8 ≤ 11; omega)
theorem rq_one {q : Rq} {fv : Value} (hf : ∃ o n k, fv = .slice o n k) : ∀ v ∈ (rqV q fv).toList, v.oneCell' = true := by
  obtain ⟨o, n, k, rfl⟩ := hf
  intro v hv
  simp [rqV] at hv
  rcases hv with rfl | rfl | rfl | rfl <;> rfl
theorem InAt.rq_stores (h : InAt w p u fv ch Zc Z c) (q : Rq) {v : Value} (hf : ∃ o n k, v = .slice o n k) : Stores Tryz.prog w 36 p 4 (rqV q v) (w.setRow p (inV { c with q := q } u v ch)) :=
  stores_part (P := Tryz.prog) (ty := 36) (off := 4) (cs := rqV q v) h.at_.heap (by kernel_rfl) (by show 8 ≤ 11; omega) (rq_one hf)
theorem InAt.all_stores (h : InAt w p u fv ch Zc Z c) {c' : I} {u' fv' ch' : Value} (hu : ∃ o n k, u' = .slice o n k) (hf : ∃ o n k, fv' = .slice o n k) (hc : ∃ a, ch' = .pointer a) : Stores Tryz.prog w 52 p 0 (inV c' u' fv' ch') (w.setRow p (inV c' u' fv' ch')) := by
  refine h.at_.stores (by kernel_rfl) rfl ?_
  obtain ⟨o, n, k, rfl⟩ := hu
  obtain ⟨o2, n2, k2, rfl⟩ := hf
  obtain ⟨a, rfl⟩ := hc
  intro v hv
  simp [inV] at hv
  rcases hv with rfl | rfl | rfl | rfl | rfl | rfl | rfl | rfl | rfl | rfl | rfl <;> rfl
end
end Go.Proofs.YtdldoklkenhopaaGreatDoor.In
