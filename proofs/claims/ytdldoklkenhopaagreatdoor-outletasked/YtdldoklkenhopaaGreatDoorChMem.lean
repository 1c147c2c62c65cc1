/-
  A body in chunks that is read, in memory: its struct and its rows; what turns, what stays.
-/
import Derived.Test.YtdldoklkenhopaaGreatDoorChRow
namespace Go.Proofs.YtdldoklkenhopaaGreatDoor.Ch
open Go.RowKit Go.PlainAid
open Hx Fi
set_option linter.unusedVariables false
set_option maxRecDepth 20000
set_option linter.unusedSimpArgs false

/-- the numbers and bytes of a struct -/
structure C where
  nx : Int
  most : Int
  n : Int
  due : Int
  part : List UInt8
  data : List UInt8
  fs : Int
  rest : List UInt8
  wr : Int
def cV (nx most n due : Int) (x y : Value) (fs : Int) (z : Value) (wr : Int) : Array Value := #[.int .i64 nx, .int .i64 most, .int .i64 n, .int .i64 due, x, y, .int .i64 fs, z, .int .i64 wr]
def Ap (x y : Value) : Prop := ∀ b, x.ownBlock = some b → y.ownBlock ≠ some b
theorem Ap.symm {x y : Value} (h : Ap x y) : Ap y x := fun b hb e => h b e hb
/-- what turned: the zone Z alone; Z' is Z or new -/
structure Goes (w w' : World) (Z Z' : Nat → Prop) : Prop where
  os : w'.os = w.os
  tape : w'.tape = w.tape
  output : w'.output = w.output
  size : w.heap.size ≤ w'.heap.size
  block : ∀ b, b < w.heap.size → ¬ Z b → w'.heap[b]? = w.heap[b]?
  sub : ∀ b, Z' b → Z b ∨ w.heap.size ≤ b
theorem Goes.refl (w : World) (Z : Nat → Prop) : Goes w w Z Z := ⟨rfl, rfl, rfl, Nat.le_refl _, fun _ _ _ => rfl, fun _ h => .inl h⟩
theorem Goes.trans {a b c : World} {Z Z' Z'' : Nat → Prop} (h : Goes a b Z Z') (k : Goes b c Z' Z'') : Goes a c Z Z'' := by
  refine ⟨k.os.trans h.os, k.tape.trans h.tape, k.output.trans h.output, Nat.le_trans h.size k.size, fun i hi hz => ?_, fun i hi => ?_⟩
  · refine (k.block i (Nat.lt_of_lt_of_le hi h.size) fun hz' => ?_).trans (h.block i hi hz)
    rcases h.sub i hz' with e | e
    · exact hz e
    · omega
  · rcases k.sub i hi with e | e
    · exact h.sub i e
    · exact .inr (Nat.le_trans h.size e)
theorem Goes.of_below {w w' : World} (h : Below w.heap.size w w') (Z : Nat → Prop) : Goes w w' Z Z := ⟨h.os, h.tape, h.output, h.size, fun b hb _ => h.block b hb, fun _ h => .inl h⟩
theorem Goes.below {w w' : World} {Z Z' : Nat → Prop} (h : Goes w w' Z Z') {N : Nat} {w0 : World} (hb : Below N w0 w) (hN : N ≤ w.heap.size) (hz : ∀ b, Z b → N ≤ b) : Below N w0 w' :=
  hb.trans ⟨h.os, h.tape, h.output, h.size, fun b hb' => h.block b (by omega) fun z => by have := hz b z; omega⟩
theorem Goes.set {w : World} {Z : Nat → Prop} (a : Addr) (v : Value) (hz : Z a.block) : Goes w (w.setCell a v) Z Z :=
  ⟨rfl, rfl, rfl, by simp, fun b hb hn => Below.heap_setCell _ _ _ _ fun e => hn (by rw [e]; exact hz), fun _ h => .inl h⟩
theorem Goes.zone {w w' : World} {Z Z' Y : Nat → Prop} (h : Goes w w' Z Z') (hy : ∀ b, Z' b → Y b) (hs : ∀ b, Y b → Z' b) : Goes w w' Z Y := ⟨h.os, h.tape, h.output, h.size, h.block, fun b hb => h.sub b (hs b hb)⟩

/-- the struct at p, its rows x (a line under way), y (data), z (behind it), all in the zone Z -/
structure ChAt (w : World) (p : Nat) (x y z : Value) (Z : Nat → Prop) (c : C) : Prop where
  st : At w p 98 (cV c.nx c.most c.n c.due x y c.fs z c.wr)
  px : Row w x c.part
  py : Row w y c.data
  pz : Row w z c.rest
  xy : Ap x y
  xz : Ap x z
  yz : Ap y z
  zp : Z p
  zx : ∀ b, x.ownBlock = some b → Z b
  zy : ∀ b, y.ownBlock = some b → Z b
  zz : ∀ b, z.ownBlock = some b → Z b
  lt : ∀ b, Z b → b < w.heap.size
section
variable {w w' : World} {p : Nat} {x y z : Value} {Z : Nat → Prop} {c : C}
theorem kind_ne {a b : Nat} {o o' : Obj} (ha : w.heap[a]? = some o) (hb : w.heap[b]? = some o') (h : o ≠ o') : a ≠ b := by
  intro e
  rw [e, hb] at ha
  exact h (Option.some.inj ha).symm
theorem row_ne {v : Value} {l : List UInt8} (h : Row w v l) {cs : Array Value} (hp : At w p 98 cs) {b : Nat} (hb : v.ownBlock = some b) : b ≠ p := by
  obtain ⟨cur, hc⟩ := h.block hb
  exact kind_ne hc hp.heap (fun e => by injection e with _ e _; exact absurd e (by decide))
theorem ChAt.kept (h : ChAt w p x y z Z c) (hs : w.heap.size ≤ w'.heap.size) (hb : ∀ b, Z b → w'.heap[b]? = w.heap[b]?) : ChAt w' p x y z Z c :=
  ⟨h.st.same (hb p h.zp), h.px.same fun b e => hb b (h.zx b e), h.py.same fun b e => hb b (h.zy b e), h.pz.same fun b e => hb b (h.zz b e), h.xy, h.xz, h.yz, h.zp, h.zx, h.zy, h.zz, fun b hz => Nat.lt_of_lt_of_le (h.lt b hz) hs⟩
theorem ChAt.old (h : ChAt w p x y z Z c) (hb : Below w.heap.size w w') : ChAt w' p x y z Z c := h.kept hb.size fun b hz => hb.block b (h.lt b hz)
theorem ChAt.drew (h : ChAt w p x y z Z c) : ChAt w.drew p x y z Z c := h.kept (Nat.le_refl _) fun _ _ => rfl
/-- another one's zone has turned -/
theorem ChAt.moved {Y Y' : Nat → Prop} (h : ChAt w p x y z Z c) (g : Goes w w' Y Y') (d : ∀ b, Y b → ¬ Z b) : ChAt w' p x y z Z c :=
  h.kept g.size fun b hz => g.block b (h.lt b hz) fun e => d b e hz
/-- one of its numbers is another one -/
theorem ChAt.num (h : ChAt w p x y z Z c) (j : Nat) (v : Value) {c' : C} (e : (cV c.nx c.most c.n c.due x y c.fs z c.wr).setIfInBounds j v = cV c'.nx c'.most c'.n c'.due x y c'.fs z c'.wr) (e1 : c'.part = c.part) (e2 : c'.data = c.data) (e3 : c'.rest = c.rest) :
    ChAt (w.setCell ⟨p, j, none⟩ v) p x y z Z c' ∧ Goes w (w.setCell ⟨p, j, none⟩ v) Z Z := by
  have hb : ∀ {v' : Value} {l : List UInt8}, Row w v' l → Row (w.setCell ⟨p, j, none⟩ v) v' l := fun r => r.same fun b hb => Below.heap_setCell _ _ _ _ (row_ne r h.st hb)
  refine ⟨⟨?_, by rw [e1]; exact hb h.px, by rw [e2]; exact hb h.py, by rw [e3]; exact hb h.pz, h.xy, h.xz, h.yz, h.zp, h.zx, h.zy, h.zz, fun b hz => by simpa using h.lt b hz⟩, Goes.set _ _ h.zp⟩
  rw [← e]
  exact h.st.set j v
end
/-! ### a row is another one: w1 is w but for that row and new blocks, then it is laid into the struct -/
def Zn (Z : Nat → Prop) (v : Value) : Nat → Prop := fun b => Z b ∨ v.ownBlock = some b
section
variable {w w1 : World} {p : Nat} {x y z v v' u : Value} {Z : Nat → Prop} {c : C} {l l' : List UInt8} {cs : Array Value}
theorem Row.far (q : Row w u l) (hp : At w p 98 cs) (g : w.grownBy w1 v.ownBlock) (a : Ap u v) (j : Nat) (v' : Value) : Row (w1.setCell ⟨p, j, none⟩ v') u l := by
  refine q.same fun b hb => ?_
  obtain ⟨cur, hc⟩ := q.block hb
  have hlt := (Array.getElem?_eq_some_iff.1 hc).1
  rw [Below.heap_setCell _ _ _ _ (row_ne q hp hb)]
  exact g.block b hlt fun e => a b hb e.symm
theorem Row.here (r : Row w1 v' l') (hp1 : At w1 p 98 cs) (j : Nat) (u : Value) : Row (w1.setCell ⟨p, j, none⟩ u) v' l' := r.same fun b hb => Below.heap_setCell _ _ _ _ (row_ne r hp1 hb)
def Lies (w : World) (v v' : Value) : Prop := v'.ownBlock = v.ownBlock ∨ ∀ b, v'.ownBlock = some b → w.heap.size ≤ b
theorem Ap.new (q : Row w u l) (a : Ap u v) (hl : Lies w v v') : Ap u v' := fun b hb e2 => by
  rcases hl with e3 | e3
  · exact a b hb (by rw [← e3]; exact e2)
  · obtain ⟨cur, hc⟩ := q.block hb
    have := (Array.getElem?_eq_some_iff.1 hc).1
    have := e3 b e2
    omega
theorem zn_lt (lt : ∀ b, Z b → b < w.heap.size) (g : w.heap.size ≤ w1.heap.size) (r : Row w1 v' l') (p j : Nat) : ∀ b, Zn Z v' b → b < (w1.setCell ⟨p, j, none⟩ v').heap.size := by
  rintro b (hb | hb)
  · have := lt b hb
    simp; omega
  · obtain ⟨cur, hc⟩ := r.block hb
    have := (Array.getElem?_eq_some_iff.1 hc).1
    simpa using this
theorem zn_goes (zp : Z p) (g : w.grownBy w1 v.ownBlock) (zv : ∀ b, v.ownBlock = some b → Z b) (hl : Lies w v v') (j : Nat) : Goes w (w1.setCell ⟨p, j, none⟩ v') Z (Zn Z v') := by
  refine ⟨g.os, g.tape, g.output, by simpa using g.size, fun b hb hn => ?_, fun b hb => ?_⟩
  · rw [Below.heap_setCell _ _ _ _ (fun e => hn (by subst e; exact zp))]
    exact g.block b hb fun e => hn (zv b e.symm)
  · rcases hb with hb | hb
    · exact .inl hb
    · rcases hl with e | e
      · exact .inl (zv b (by rw [← e]; exact hb))
      · exact .inr (e b hb)
theorem ChAt.rowX (h : ChAt w p x y z Z c) (g : w.grownBy w1 x.ownBlock) (r : Row w1 v' l') (hl : Lies w x v') :
    ChAt (w1.setCell ⟨p, 4, none⟩ v') p v' y z (Zn Z v') { c with part := l' } ∧ Goes w (w1.setCell ⟨p, 4, none⟩ v') Z (Zn Z v') := by
  have hp1 : At w1 p 98 (cV c.nx c.most c.n c.due x y c.fs z c.wr) := h.st.same (g.block p h.st.lt fun e => row_ne h.px h.st e.symm rfl)
  have ay := Ap.new h.py h.xy.symm hl
  have az := Ap.new h.pz h.xz.symm hl
  exact ⟨⟨hp1.set 4 v', r.here hp1 4 v', h.py.far h.st g h.xy.symm 4 v', h.pz.far h.st g h.xz.symm 4 v', ay.symm, az.symm, h.yz, .inl h.zp, fun b hb => .inr hb, fun b hb => .inl (h.zy b hb), fun b hb => .inl (h.zz b hb), zn_lt h.lt g.size r p 4⟩, zn_goes h.zp g h.zx hl 4⟩
theorem ChAt.rowY (h : ChAt w p x y z Z c) (g : w.grownBy w1 y.ownBlock) (r : Row w1 v' l') (hl : Lies w y v') :
    ChAt (w1.setCell ⟨p, 5, none⟩ v') p x v' z (Zn Z v') { c with data := l' } ∧ Goes w (w1.setCell ⟨p, 5, none⟩ v') Z (Zn Z v') := by
  have hp1 : At w1 p 98 (cV c.nx c.most c.n c.due x y c.fs z c.wr) := h.st.same (g.block p h.st.lt fun e => row_ne h.py h.st e.symm rfl)
  have ax := Ap.new h.px h.xy hl
  have az := Ap.new h.pz h.yz.symm hl
  exact ⟨⟨hp1.set 5 v', h.px.far h.st g h.xy 5 v', r.here hp1 5 v', h.pz.far h.st g h.yz.symm 5 v', ax, h.xz, az.symm, .inl h.zp, fun b hb => .inl (h.zx b hb), fun b hb => .inr hb, fun b hb => .inl (h.zz b hb), zn_lt h.lt g.size r p 5⟩, zn_goes h.zp g h.zy hl 5⟩
theorem ChAt.rowZ (h : ChAt w p x y z Z c) (g : w.grownBy w1 z.ownBlock) (r : Row w1 v' l') (hl : Lies w z v') :
    ChAt (w1.setCell ⟨p, 7, none⟩ v') p x y v' (Zn Z v') { c with rest := l' } ∧ Goes w (w1.setCell ⟨p, 7, none⟩ v') Z (Zn Z v') := by
  have hp1 : At w1 p 98 (cV c.nx c.most c.n c.due x y c.fs z c.wr) := h.st.same (g.block p h.st.lt fun e => row_ne h.pz h.st e.symm rfl)
  have ax := Ap.new h.px h.xz hl
  have ay := Ap.new h.py h.yz hl
  exact ⟨⟨hp1.set 7 v', h.px.far h.st g h.xz 7 v', h.py.far h.st g h.yz 7 v', r.here hp1 7 v', h.xy, ax, ay, .inl h.zp, fun b hb => .inl (h.zx b hb), fun b hb => .inl (h.zy b hb), fun b hb => .inr hb, zn_lt h.lt g.size r p 7⟩, zn_goes h.zp g h.zz hl 7⟩
theorem grown_refl (w : World) (row : Option Nat) : w.grownBy w row := ⟨rfl, rfl, rfl, Nat.le_refl _, fun _ _ _ => rfl⟩
/-- the line under way is cut to nothing -/
theorem ChAt.cutX {o : Option Addr} {n cap : Nat} (h : ChAt w p (.slice o n cap) y z Z c) : ChAt (w.setCell ⟨p, 4, none⟩ (.slice o 0 cap)) p (.slice o 0 cap) y z Z { c with part := [] } ∧ Goes w (w.setCell ⟨p, 4, none⟩ (.slice o 0 cap)) Z Z := by
  have own : (Value.slice o 0 cap).ownBlock = (Value.slice o n cap).ownBlock := by cases o <;> rfl
  obtain ⟨a, g⟩ := h.rowX (v' := .slice o 0 cap) (grown_refl w _) h.px.cut (.inl own)
  have e : ∀ b, Zn Z (.slice o 0 cap) b ↔ Z b := fun b => ⟨fun hb => by
    rcases hb with hb | hb
    · exact hb
    · exact h.zx b (by rw [← own]; exact hb), .inl⟩
  exact ⟨⟨a.st, a.px, a.py, a.pz, a.xy, a.xz, a.yz, h.zp, fun b hb => (e b).1 (a.zx b hb), h.zy, h.zz, fun b hb => a.lt b (.inl hb)⟩, ⟨g.os, g.tape, g.output, g.size, g.block, fun b hb => .inl hb⟩⟩
/-- data is taken -/
theorem ChAt.takeY (h : ChAt w p x y z Z c) : ChAt (w.setCell ⟨p, 5, none⟩ (.slice none 0 0)) p x (.slice none 0 0) z Z { c with data := [] } ∧ Goes w (w.setCell ⟨p, 5, none⟩ (.slice none 0 0)) Z Z := by
  obtain ⟨a, g⟩ := h.rowY (v' := .slice none 0 0) (grown_refl w _) (Row.nil w) (.inr fun b hb => by simp [Value.ownBlock] at hb)
  exact ⟨⟨a.st, a.px, a.py, a.pz, a.xy, a.xz, a.yz, h.zp, h.zx, fun b hb => by simp [Value.ownBlock] at hb, h.zz, fun b hb => a.lt b (.inl hb)⟩, ⟨g.os, g.tape, g.output, g.size, g.block, fun b hb => .inl hb⟩⟩
end
/-! ### its cells -/
section
variable {w : World} {p : Nat} {x y z : Value} {Z : Nat → Prop} {c : C}
theorem ChAt.c0 (h : ChAt w p x y z Z c) : w.cell? ⟨p, 0, none⟩ = some (.int .i64 c.nx) := h.st.cell 0
theorem ChAt.c1 (h : ChAt w p x y z Z c) : w.cell? ⟨p, 1, none⟩ = some (.int .i64 c.most) := h.st.cell 1
theorem ChAt.c2 (h : ChAt w p x y z Z c) : w.cell? ⟨p, 2, none⟩ = some (.int .i64 c.n) := h.st.cell 2
theorem ChAt.c3 (h : ChAt w p x y z Z c) : w.cell? ⟨p, 3, none⟩ = some (.int .i64 c.due) := h.st.cell 3
theorem ChAt.c4 (h : ChAt w p x y z Z c) : w.cell? ⟨p, 4, none⟩ = some x := h.st.cell 4
theorem ChAt.c5 (h : ChAt w p x y z Z c) : w.cell? ⟨p, 5, none⟩ = some y := h.st.cell 5
theorem ChAt.c6 (h : ChAt w p x y z Z c) : w.cell? ⟨p, 6, none⟩ = some (.int .i64 c.fs) := h.st.cell 6
theorem ChAt.c7 (h : ChAt w p x y z Z c) : w.cell? ⟨p, 7, none⟩ = some z := h.st.cell 7
theorem ChAt.c8 (h : ChAt w p x y z Z c) : w.cell? ⟨p, 8, none⟩ = some (.int .i64 c.wr) := h.st.cell 8
theorem ChAt.fz (h : ChAt w p x y z Z c) (j : Nat) : w.frozen? ⟨p, j, none⟩ = false := h.st.frozen j
end
/-- append(bytes, text...) at an operation -/
theorem wp_app {o : Oper} {a : Act} {K : Act → World → Prop} {Q : Exit → Act → World → Prop} {w : World} {v : Value} {l : List UInt8} (h : Row w v l) {s : ByteArray} (hb : l.length + s.size ≤ 1099511627776) (sl x : Operand)
    (hop : o.op = .call { callee := .builtin .append, args := #[sl, x], argTypes := #[49, 9] }) (hs : a.eval sl = v) (hx : a.eval x = .string s)
    (hK : ∀ o' m cap w', Row w' (.slice o' m cap) (l ++ ls s) → w.grownBy w' v.ownBlock → Lies w v (.slice o' m cap) → K (a.put o.dst (.slice o' m cap)) w') : o.wp Tryz.prog a w K Q := by
  obtain ⟨v', w', hr, h2, h3, h4⟩ := h.append s hb o.type
  unfold Oper.wp execOp
  simp only [hop, resolve, invoke, builtin, Sem.run_bind, Sem.run_pure, Result.andThen_ok, List.map_toArray, List.map_cons, List.map_nil, hs, hx, hr]
  obtain ⟨o', cap', rfl, _, _⟩ := h2.form
  refine hK o' _ cap' w' h2 h3 ?_
  rcases h4 with e | e
  · exact .inl e
  · exact .inr fun b hb => by rw [e] at hb; exact Nat.le_of_eq (Option.some.inj hb)
theorem wpl_app {ops : Array Oper} {rest : List Oper} {o : Oper} {a : Act} {Q : Exit → Act → World → Prop} {w : World} {v : Value} {l : List UInt8} (h : Row w v l) {s : ByteArray} (hb : l.length + s.size ≤ 1099511627776) (hgd : o.guard = none) (sl x : Operand)
    (hop : o.op = .call { callee := .builtin .append, args := #[sl, x], argTypes := #[49, 9] }) (hs : a.eval sl = v) (hx : a.eval x = .string s)
    (hK : ∀ o' m cap w', Row w' (.slice o' m cap) (l ++ ls s) → w.grownBy w' v.ownBlock → Lies w v (.slice o' m cap) → wpList Tryz.prog ops Q rest (a.put o.dst (.slice o' m cap)) w') : wpList Tryz.prog ops Q (o :: rest) a w :=
  wpList_plain hgd fun K hK' => wp_app h hb sl x hop hs hx fun o' m cap w' a b c => hK' _ _ (hK o' m cap w' a b c)
/-- append(bytes, a byte) at an operation -/
theorem wp_app1 {o : Oper} {a : Act} {K : Act → World → Prop} {Q : Exit → Act → World → Prop} {w : World} {v : Value} {l : List UInt8} (h : Row w v l) (hl : l.length ≤ 1099511627776) {B : Nat} {b : UInt8} (hB : w.heap[B]? = some (.cells #[.int .u8 (b.toNat : Int)] 5 (0, 0))) (sl x : Operand)
    (hop : o.op = .call { callee := .builtin .append, args := #[sl, x], argTypes := #[49, 49] }) (hs : a.eval sl = v) (hx : a.eval x = .slice (some ⟨B, 0, none⟩) 1 1)
    (hK : ∀ o' m cap w', Row w' (.slice o' m cap) (l ++ [b]) → w.grownBy w' v.ownBlock → Lies w v (.slice o' m cap) → K (a.put o.dst (.slice o' m cap)) w') : o.wp Tryz.prog a w K Q := by
  obtain ⟨iB, hiB, hB0, hB1, hB2⟩ := info_parts info5
  refine wp_append_lies w sl x 49 hop 0 5 iB (.int .u8 0) 1 1 Tryz.underlying49 hiB hB0 hB1 hB2 rfl (by decide) v l.length (bytesV l) hs h ⟨B, 0, none⟩ 1 1 [.int .u8 (b.toNat : Int)] hx rfl (World.news_of_block (cs := #[_]) hB) (by intro u hu; simp at hu; subst hu; rfl) (by decide) (by unfold maxLen; omega) (by omega) (Nat.zero_le _) w.heap.size rfl ?_
  intro g cap w' own grow at_ lt
  refine hK _ _ _ w' ?_ grow ?_
  · unfold Row
    rw [show (l ++ [b]).length = l.length + 1 by simp, show bytesV (l ++ [b]) = bytesV l ++ [.int .u8 (b.toNat : Int)] by rw [bytesV_append]; rfl]
    exact own
  · rcases at_ with e | e
    · exact .inl e.symm
    · exact .inr fun b hb => by
        have : g = b := by simpa [Value.ownBlock] using hb
        omega
/-- two operations, in either order -/
theorem any_two {P : Program} {md : Region.Mode} {ops : Array Oper} {Q : Exit → Act → World → Prop} (i j : Nat) {fuel : Nat} {listed : Array Bool} {a : Act} {w : World} (hr : Region.ready md ops listed = [i, j])
    (h1 : ∀ K : Act → World → Prop, (∀ a w, wpAny P md ops Q fuel (listed.setIfInBounds i true) a w → K a w) → wpOp P ops Q i K a w) (h2 : ∀ K : Act → World → Prop, (∀ a w, wpAny P md ops Q fuel (listed.setIfInBounds j true) a w → K a w) → wpOp P ops Q j K a w) : wpAny P md ops Q (fuel + 1) listed a w :=
  wpAny_all hr (by simp) (by
    intro k hk; simp at hk
    rcases hk with rfl | rfl
    · exact h1 _ fun _ _ h => h
    · exact h2 _ fun _ _ h => h)
/-- what stands in memory of a struct, whatever its rows -/
def Has (w : World) (p : Nat) (Z : Nat → Prop) (c : C) : Prop := ∃ x y z, ChAt w p x y z Z c
def Post (w w' : World) (p : Nat) (Z : Nat → Prop) (c : C) : Prop := ∃ Z', Has w' p Z' c ∧ Goes w w' Z Z'
theorem Post.trans {w w1 w2 : World} {p : Nat} {Z Z1 : Nat → Prop} {c : C} (g : Goes w w1 Z Z1) (h : Post w1 w2 p Z1 c) : Post w w2 p Z c := by
  obtain ⟨Z2, h, k⟩ := h
  exact ⟨Z2, h, g.trans k⟩
end Go.Proofs.YtdldoklkenhopaaGreatDoor.Ch
