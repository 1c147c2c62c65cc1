/-
  The disk in memory: its struct, its map of names to files, its files and their rows of bytes; what stays, what turns.
-/
import Derived.Test.YtdmgobffhpgjlaaGreatPkMath
import Derived.Test.YtdmgobffhpgjlaaGreatRows
import Derived.Maps.RangeWalk
import Derived.Laws.Rows
import Derived.Laws.CopyRow
import Derived.Lib.Hide

namespace Go.Proofs.YtdmgobffhpgjlaaGreat.Pk
open Go.RowKit Go.Maps
open Go.ChangeMaps (notKey putKey delKey)
set_option linter.unusedVariables false
set_option maxRecDepth 20000
set_option linter.unusedSimpArgs false

def bv (c : UInt8) : Value := .int .u8 (c.toNat : Int)
/-- how an element of the map is read: the number of its block -/
def RF (v : Value) : Option (DataW Unit × List MemPlace) :=
  match v with
  | .pointer none => some (.nil, [])
  | .pointer (some ⟨g, 0, none⟩) => some (.lit (.int .i64 (g : Int)), [])
  | _ => none
theorem RF_ptr (g : Nat) : RF (.pointer (some ⟨g, 0, none⟩)) = some (.lit (.int .i64 (g : Int)), []) := rfl
theorem RF_nil {v : Value} {ps : List MemPlace} (h : RF v = some (.nil, ps)) : v = .pointer none := by
  unfold RF at h
  split at h
  · rfl
  · cases h
  · cases h
theorem RF_inv {v : Value} {g : Nat} {ps : List MemPlace} (h : RF v = some (.lit (.int .i64 (g : Int)), ps)) : v = .pointer (some ⟨g, 0, none⟩) := by
  unfold RF at h
  split at h
  · cases h
  · simp only [Option.some.injEq, Prod.mk.injEq, DataW.lit.injEq, Lit.int.injEq, true_and] at h
    rw [show _ = g from Int.ofNat_inj.1 h.1]
  · cases h
abbrev Gs := Bs → Nat × Value
def setG (G : Gs) (k : Bs) (x : Nat × Value) : Gs := fun n => if n = k then x else G n
theorem setG_same (G : Gs) (k : Bs) (x : Nat × Value) : setG G k x k = x := if_pos rfl
theorem setG_other (G : Gs) {k n : Bs} (x : Nat × Value) (h : n ≠ k) : setG G k x n = G n := if_neg h
def ent (G : Gs) (f : Fi) : Lit × DataW Unit := (.string f.nm, .lit (.int .i64 ((G f.nm).1 : Int)))
def datum (G : Gs) (l : List Fi) : DataW Unit := .map (l.map (ent G))

theorem ent_ins (G : Gs) (f : Fi) : ∀ l : List Fi, (insF f l).map (ent G) = DataW.insert (ent G f) (l.map (ent G))
  | [] => rfl
  | y :: r => by
    unfold insF
    simp only [List.map_cons, DataW.insert]
    have e : (ent G f).1.before (ent G y).1 = bytesBefore f.nm y.nm := rfl
    rw [e]
    by_cases hb : bytesBefore f.nm y.nm = true
    · rw [if_pos hb, if_pos hb]
      rfl
    · rw [if_neg hb, if_neg hb, List.map_cons, ent_ins G f r]
theorem ent_del (G : Gs) (k : Bs) (l : List Fi) : (delF k l).map (ent G) = (l.map (ent G)).filter (notKey (.string k)) := by
  rw [List.filter_map]
  rfl
theorem ent_congr {G G' : Gs} {l : List Fi} (h : ∀ f ∈ l, (G' f.nm).1 = (G f.nm).1) : l.map (ent G') = l.map (ent G) := List.map_congr_left fun f hf => by simp [ent, h f hf]
theorem ent_upd {G : Gs} {k : Bs} {g : Fi} (hg : g.nm = k) (l : List Fi) : (updF k g l).map (ent G) = l.map (ent G) := by
  unfold updF
  rw [List.map_map]
  refine List.map_congr_left fun f hf => ?_
  simp only [Function.comp]
  by_cases h : f.nm = k
  · rw [if_pos (by simpa using h)]
    simp [ent, hg, h]
  · rw [if_neg (by simpa using h)]
theorem datum_del (G : Gs) (k : Bs) (l : List Fi) : (datum G l).del (.string k) = datum G (delF k l) := by
  unfold datum
  rw [DataW.del_eq, ent_del]
  rfl
theorem datum_at (G : Gs) (k : Bs) (l : List Fi) (z : DataW Unit) : (datum G l).atKey (.string k) z = match getF k l with | none => z | some f => .lit (.int .i64 ((G f.nm).1 : Int)) := by
  unfold datum DataW.atKey getF
  induction l with
  | nil => rfl
  | cons a r ih =>
    simp only [List.map_cons, List.find?_cons, ent, Lit.sameKey]
    cases a.nm == k
    · exact ih
    · rfl
theorem datum_size (G : Gs) (l : List Fi) : Maps.size (datum G l) = l.length := by simp [datum, Maps.size]
theorem tight {w : World} {P : Program} {k : TypeId} {b n : Nat} {l : List (Lit × DataW Unit)} {R : Value → Option (DataW Unit × List MemPlace)} (h : w.ownsMap P k R b n (.map l)) : w.ownsMap P k R b l.length (.map l) := by
  obtain ⟨es, clock, hb, F, hs, hD⟩ := h
  refine ⟨es, clock, hb, F, ?_, hD⟩
  have : l.length = es.size := by
    rw [DataW.map.injEq] at hD
    rw [hD, length_sorted]
    simp
  omega

/-- v is the row of bytes bs, in a block of its own: no cell of it is frozen -/
def RowB (w : World) (v : Value) (bs : Bs) : Prop :=
  (v = .slice none 0 0 ∧ bs = []) ∨ ∃ g cap cur fr, v = .slice (some ⟨g, 0, none⟩) bs.length cap ∧ w.heap[g]? = some (.cells cur 5 fr) ∧ (fr = (0, 0) ∨ fr = (cur.size, cur.size + 1)) ∧ bs.length ≤ cap ∧ cap ≤ maxLen ∧ cur.size = cap ∧ cur.toList.take bs.length = bs.map bv
structure FileAt (w : World) (f : Fi) (x : Nat × Value) : Prop where
  st : w.heap[x.1]? = some (.cells #[x.2, .int .i64 (f.sf : Int)] 89 (0, 0))
  row : RowB w x.2 f.bs
def headV (m : Nat) (D : Dk) : Array Value := #[.int .i64 D.room, .map (some m), .int .i64 D.ops, .bool D.off, .int .i64 D.kd, .int .i64 D.fa, .int .i64 D.fm]
structure DiskAt (w : World) (p m : Nat) (G : Gs) (D : Dk) : Prop where
  head : w.heap[p]? = some (.cells (headV m D) 74 (0, 0))
  map : w.ownsMap Tryz.prog 9 RF m D.L.length (datum G D.L)
  file : ∀ f ∈ D.L, FileAt w f (G f.nm)
  apart : ∀ f ∈ D.L, ∀ h ∈ D.L, f.nm ≠ h.nm → (G f.nm).1 ≠ (G h.nm).1 ∧ ∀ b, (G f.nm).2.ownBlock = some b → (G h.nm).2.ownBlock ≠ some b
  ok : D.Ok
def zone (p m : Nat) (G : Gs) (l : List Fi) (b : Nat) : Prop := b = p ∨ b = m ∨ ∃ f ∈ l, b = (G f.nm).1 ∨ (G f.nm).2.ownBlock = some b

theorem row_same {w w' : World} {v : Value} {bs : Bs} (h : RowB w v bs) (hs : ∀ b, v.ownBlock = some b → w'.heap[b]? = w.heap[b]?) : RowB w' v bs := by
  rcases h with hn | ⟨g, cap, cur, fr, rfl, hg, rest⟩
  · exact .inl hn
  · exact .inr ⟨g, cap, cur, fr, rfl, by rw [hs g rfl]; exact hg, rest⟩
theorem map_same {w w' : World} {P : Program} {k : TypeId} {R : Value → Option (DataW Unit × List MemPlace)} {b n : Nat} {D : DataW Unit} (h : w.ownsMap P k R b n D) (hs : w'.heap[b]? = w.heap[b]?) : w'.ownsMap P k R b n D := by
  obtain ⟨es, clock, hb, r⟩ := h
  exact ⟨es, clock, by rw [hs]; exact hb, r⟩
theorem FileAt.same {w w' : World} {f : Fi} {x : Nat × Value} (h : FileAt w f x) (h1 : w'.heap[x.1]? = w.heap[x.1]?) (h2 : ∀ b, x.2.ownBlock = some b → w'.heap[b]? = w.heap[b]?) : FileAt w' f x := ⟨by rw [h1]; exact h.st, row_same h.row h2⟩
theorem row_block {w : World} {v : Value} {bs : Bs} (h : RowB w v bs) {b : Nat} (hb : v.ownBlock = some b) : ∃ cur fr, w.heap[b]? = some (.cells cur 5 fr) := by
  rcases h with ⟨rfl, _⟩ | ⟨g, cap, cur, fr, rfl, hg, _⟩
  · simp [Value.ownBlock] at hb
  · simp [Value.ownBlock] at hb
    subst hb
    exact ⟨cur, fr, hg⟩
theorem map_block {w : World} {P : Program} {k : TypeId} {R : Value → Option (DataW Unit × List MemPlace)} {b n : Nat} {D : DataW Unit} (h : w.ownsMap P k R b n D) : ∃ es clock, w.heap[b]? = some (.map es clock) := by
  obtain ⟨es, clock, hb, _⟩ := h
  exact ⟨es, clock, hb⟩
theorem in_heap {w : World} {b : Nat} {o : Obj} (h : w.heap[b]? = some o) : b < w.heap.size := (Array.getElem?_eq_some_iff.1 h).1
theorem kind_ne {w : World} {a b : Nat} {x y : Obj} (ha : w.heap[a]? = some x) (hb : w.heap[b]? = some y) (h : x ≠ y) : a ≠ b := by
  intro e
  rw [e, hb] at ha
  exact h (Option.some.inj ha).symm
theorem cells_ne {c c' : Array Value} {t t' : TypeId} {f f' : Nat × Nat} (h : t ≠ t') : (Obj.cells c t f) ≠ .cells c' t' f' := fun e => h (by injection e)

section
variable {w w' : World} {p m : Nat} {G : Gs} {D : Dk}
theorem DiskAt.pm (h : DiskAt w p m G D) : p ≠ m := by
  obtain ⟨es, clock, hb⟩ := map_block h.map
  exact kind_ne h.head hb (by intro e; cases e)
theorem DiskAt.pg (h : DiskAt w p m G D) {f : Fi} (hf : f ∈ D.L) : p ≠ (G f.nm).1 := kind_ne h.head (h.file f hf).st (cells_ne (by decide))
theorem DiskAt.pr (h : DiskAt w p m G D) {f : Fi} (hf : f ∈ D.L) {b : Nat} (hb : (G f.nm).2.ownBlock = some b) : p ≠ b := by
  obtain ⟨cur, fr, hc⟩ := row_block (h.file f hf).row hb
  exact kind_ne h.head hc (cells_ne (by decide))
theorem DiskAt.mg (h : DiskAt w p m G D) {f : Fi} (hf : f ∈ D.L) : m ≠ (G f.nm).1 := by
  obtain ⟨es, clock, hb⟩ := map_block h.map
  exact kind_ne hb (h.file f hf).st (by intro e; cases e)
theorem DiskAt.mr (h : DiskAt w p m G D) {f : Fi} (hf : f ∈ D.L) {b : Nat} (hb : (G f.nm).2.ownBlock = some b) : m ≠ b := by
  obtain ⟨cur, fr, hc⟩ := row_block (h.file f hf).row hb
  obtain ⟨es, clock, hm⟩ := map_block h.map
  exact kind_ne hm hc (by intro e; cases e)
theorem DiskAt.gr (h : DiskAt w p m G D) {f : Fi} (hf : f ∈ D.L) {k : Fi} (hk : k ∈ D.L) {b : Nat} (hb : (G k.nm).2.ownBlock = some b) : (G f.nm).1 ≠ b := by
  obtain ⟨cur, fr, hc⟩ := row_block (h.file k hk).row hb
  exact kind_ne (h.file f hf).st hc (cells_ne (by decide))
theorem DiskAt.lt (h : DiskAt w p m G D) {b : Nat} (hb : zone p m G D.L b) : b < w.heap.size := by
  rcases hb with rfl | rfl | ⟨f, hf, rfl | hb⟩
  · exact in_heap h.head
  · exact h.map.lt
  · exact in_heap (h.file f hf).st
  · obtain ⟨cur, fr, hc⟩ := row_block (h.file f hf).row hb
    exact in_heap hc
/-- all its blocks are as they were -/
theorem DiskAt.kept (h : DiskAt w p m G D) (hs : ∀ b, zone p m G D.L b → w'.heap[b]? = w.heap[b]?) : DiskAt w' p m G D :=
  ⟨by rw [hs p (.inl rfl)]; exact h.head, map_same h.map (hs m (.inr (.inl rfl))), fun f hf => (h.file f hf).same (hs _ (.inr (.inr ⟨f, hf, .inl rfl⟩))) fun b hb => hs b (.inr (.inr ⟨f, hf, .inr hb⟩)), h.apart, h.ok⟩
/-- only its own struct has turned -/
theorem DiskAt.turn (h : DiskAt w p m G D) {D' : Dk} (hL : D'.L = D.L) (ok : D'.Ok) (hp : w'.heap[p]? = some (.cells (headV m D') 74 (0, 0))) (hs : ∀ b, b ≠ p → w'.heap[b]? = w.heap[b]?) : DiskAt w' p m G D' := by
  refine ⟨hp, ?_, ?_, ?_, ok⟩
  · rw [hL]
    exact map_same h.map (hs m h.pm.symm)
  · rw [hL]
    exact fun f hf => (h.file f hf).same (hs _ (h.pg hf).symm) fun b hb => hs b (h.pr hf hb).symm
  · rw [hL]
    exact h.apart
end

/-! ### what may turn -/
structure Goes (w w' : World) (Z Z' : Nat → Prop) : Prop where
  os : w'.os = w.os
  tape : w'.tape = w.tape
  output : w'.output = w.output
  size : w.heap.size ≤ w'.heap.size
  block : ∀ b, b < w.heap.size → ¬ Z b → w'.heap[b]? = w.heap[b]?
  sub : ∀ b, Z' b → Z b ∨ w.heap.size ≤ b
theorem Goes.refl (w : World) (Z : Nat → Prop) : Goes w w Z Z := ⟨rfl, rfl, rfl, Nat.le_refl _, fun _ _ _ => rfl, fun _ h => .inl h⟩
theorem Goes.trans {a b c : World} {Z Z' Z'' : Nat → Prop} (h : Goes a b Z Z') (k : Goes b c Z' Z'') : Goes a c Z Z'' := by
  refine ⟨k.os.trans h.os, k.tape.trans h.tape, k.output.trans h.output, Nat.le_trans h.size k.size, fun i hi hz => ?_, fun i hi => ?_⟩
  · refine (k.block i (Nat.lt_of_lt_of_le hi h.size) fun hz' => ?_).trans (h.block i hi hz)
    rcases h.sub i hz' with e | e
    · exact hz e
    · omega
  · rcases k.sub i hi with e | e
    · exact h.sub i e
    · exact .inr (Nat.le_trans h.size e)
theorem Goes.of_below {w w' : World} (h : Below w.heap.size w w') (Z : Nat → Prop) : Goes w w' Z Z := ⟨h.os, h.tape, h.output, h.size, fun b hb _ => h.block b hb, fun _ h => .inl h⟩
theorem Goes.below {w w' : World} {Z Z' : Nat → Prop} (h : Goes w w' Z Z') {N : Nat} {w0 : World} (hb : Below N w0 w) (hN : N ≤ w.heap.size) (hz : ∀ b, Z b → N ≤ b) : Below N w0 w' :=
  hb.trans ⟨h.os, h.tape, h.output, h.size, fun b hb' => h.block b (by omega) fun z => by have := hz b z; omega⟩
theorem Goes.of_set {w w' : World} {Z : Nat → Prop} {a : Addr} {v : Value} (h : w' = w.setCell a v) (hz : Z a.block) : Goes w w' Z Z := by
  subst h
  refine ⟨rfl, rfl, rfl, by simp, fun b hb hn => Below.heap_setCell _ _ _ _ fun e => hn (by rw [e]; exact hz), fun _ h => .inl h⟩
/-- blocks that aren't in the zone, below -/
theorem DiskAt.moved {w w' : World} {p m : Nat} {G : Gs} {D : Dk} {Z Z' : Nat → Prop} (h : DiskAt w p m G D) (g : Goes w w' Z Z') (hz : ∀ b, Z b → ¬ zone p m G D.L b) : DiskAt w' p m G D :=
  h.kept fun b hb => g.block b (h.lt hb) fun z => hz b z hb

section
variable {w w' : World} {p m : Nat} {G : Gs} {D : Dk}
/-- a file is another one of the same name, in the same block -/
theorem DiskAt.setFile (h : DiskAt w p m G D) {f : Fi} (hf : f ∈ D.L) {g : Fi} {v : Value} (hn : g.nm = f.nm) (ok : { D with L := updF f.nm g D.L }.Ok) (hF : FileAt w' g ((G f.nm).1, v))
    (hs : ∀ b, b < w.heap.size → b ≠ (G f.nm).1 → (G f.nm).2.ownBlock ≠ some b → w'.heap[b]? = w.heap[b]?) (hv : ∀ b, v.ownBlock = some b → (G f.nm).2.ownBlock = some b ∨ w.heap.size ≤ b) :
    DiskAt w' p m (setG G f.nm ((G f.nm).1, v)) { D with L := updF f.nm g D.L } := by
  have other : ∀ x ∈ D.L, x.nm ≠ f.nm → setG G f.nm ((G f.nm).1, v) x.nm = G x.nm := fun x hx hne => setG_other _ _ hne
  have first : ∀ n : Bs, (setG G f.nm ((G f.nm).1, v) n).1 = (G n).1 := by
    intro n
    by_cases e : n = f.nm
    · rw [e, setG_same]
    · rw [setG_other _ _ e]
  refine ⟨?_, ?_, ?_, ?_, ok⟩
  · rw [hs p (in_heap h.head) (h.pg hf) fun e => h.pr hf e rfl]
    exact h.head
  · show w'.ownsMap _ _ RF m (updF f.nm g D.L).length (datum _ (updF f.nm g D.L))
    have e : datum (setG G f.nm ((G f.nm).1, v)) (updF f.nm g D.L) = datum G D.L := by
      unfold datum
      rw [ent_upd hn, ent_congr fun x hx => first x.nm]
    rw [e, len_upd]
    exact map_same h.map (hs m h.map.lt (h.mg hf) fun e => h.mr hf e rfl)
  · intro x hx
    rcases mem_upd.1 hx with ⟨rfl, _⟩ | ⟨hx, hne⟩
    · rw [hn, setG_same]
      exact hF
    · rw [other x hx hne]
      obtain ⟨a1, a2⟩ := h.apart x hx f hf hne
      refine (h.file x hx).same (hs _ (in_heap (h.file x hx).st) a1 fun e => h.gr hx hf e rfl) fun b hb => hs b (h.lt (.inr (.inr ⟨x, hx, .inr hb⟩))) (fun e => h.gr hf hx hb e.symm) fun e => a2 b hb e
  · intro x hx y hy hne
    rcases mem_upd.1 hx with ⟨ex, _⟩ | ⟨hx, hxn⟩ <;> rcases mem_upd.1 hy with ⟨ey, _⟩ | ⟨hy, hyn⟩
    · exact absurd (by rw [ex, ey]) hne
    · rw [ex, hn, setG_same, other y hy hyn]
      obtain ⟨a1, a2⟩ := h.apart f hf y hy hyn.symm
      refine ⟨a1, fun b hb e => ?_⟩
      rcases hv b hb with c | c
      · exact a2 b c e
      · have := h.lt (.inr (.inr ⟨y, hy, .inr e⟩)); omega
    · rw [ey, hn, setG_same, other x hx hxn]
      obtain ⟨a1, a2⟩ := h.apart x hx f hf hxn
      refine ⟨a1, fun b hb e => ?_⟩
      rcases hv b e with c | c
      · exact a2 b hb c
      · have := h.lt (.inr (.inr ⟨x, hx, .inr hb⟩)); omega
    · rw [other x hx hxn, other y hy hyn]
      exact h.apart x hx y hy hne
theorem zone_setFile (h : DiskAt w p m G D) {f : Fi} (hf : f ∈ D.L) {g : Fi} {v : Value} (hn : g.nm = f.nm) (hv : ∀ b, v.ownBlock = some b → (G f.nm).2.ownBlock = some b ∨ w.heap.size ≤ b) :
    ∀ b, zone p m (setG G f.nm ((G f.nm).1, v)) (updF f.nm g D.L) b → zone p m G D.L b ∨ w.heap.size ≤ b := by
  rintro b (rfl | rfl | ⟨x, hx, hb⟩)
  · exact .inl (.inl rfl)
  · exact .inl (.inr (.inl rfl))
  · rcases mem_upd.1 hx with ⟨rfl, _⟩ | ⟨hx, hne⟩
    · rw [hn, setG_same] at hb
      rcases hb with hb | hb
      · exact .inl (.inr (.inr ⟨f, hf, .inl hb⟩))
      · rcases hv b hb with c | c
        · exact .inl (.inr (.inr ⟨f, hf, .inr c⟩))
        · exact .inr c
    · rw [setG_other _ _ hne] at hb
      exact .inl (.inr (.inr ⟨x, hx, hb⟩))
/-- a name is taken out of the map -/
theorem DiskAt.del (h : DiskAt w p m G D) (k : Bs) {n : Nat} (hm : w'.ownsMap Tryz.prog 9 RF m n ((datum G D.L).del (.string k))) (hs : ∀ b, b < w.heap.size → b ≠ m → w'.heap[b]? = w.heap[b]?) : DiskAt w' p m G { D with L := delF k D.L } := by
  refine ⟨?_, ?_, ?_, ?_, h.ok.del k⟩
  · rw [hs p (in_heap h.head) h.pm]
    exact h.head
  · rw [datum_del] at hm
    have := tight hm
    rw [List.length_map] at this
    exact this
  · intro x hx
    obtain ⟨hx, _⟩ := mem_del.1 hx
    exact (h.file x hx).same (hs _ (in_heap (h.file x hx).st) (h.mg hx).symm) fun b hb => hs b (h.lt (.inr (.inr ⟨x, hx, .inr hb⟩))) (h.mr hx hb).symm
  · intro x hx y hy hne
    exact h.apart x (mem_del.1 hx).1 y (mem_del.1 hy).1 hne
theorem zone_del (k : Bs) : ∀ b, zone p m G (delF k D.L) b → zone p m G D.L b := by
  rintro b (rfl | rfl | ⟨x, hx, hb⟩)
  · exact .inl rfl
  · exact .inr (.inl rfl)
  · exact .inr (.inr ⟨x, (mem_del.1 hx).1, hb⟩)
/-- a file is put under a name; its blocks are no other file's -/
theorem DiskAt.put (h : DiskAt w p m G D) {f : Fi} {g : Nat} {v : Value} {n : Nat} (hm : w'.ownsMap Tryz.prog 9 RF m n ((datum G D.L).put (.string f.nm) (.lit (.int .i64 (g : Int))))) (ok : { D with L := insF f (delF f.nm D.L) }.Ok) (hF : FileAt w' f (g, v))
    (hs : ∀ b, zone p m G (delF f.nm D.L) b → b ≠ m → w'.heap[b]? = w.heap[b]?) (hg : ∀ x ∈ delF f.nm D.L, g ≠ (G x.nm).1) (hv : ∀ b, v.ownBlock = some b → ∀ x ∈ delF f.nm D.L, (G x.nm).2.ownBlock ≠ some b) :
    DiskAt w' p m (setG G f.nm (g, v)) { D with L := insF f (delF f.nm D.L) } := by
  have other : ∀ x ∈ delF f.nm D.L, setG G f.nm (g, v) x.nm = G x.nm := fun x hx => setG_other _ _ (mem_del.1 hx).2
  refine ⟨?_, ?_, ?_, ?_, ok⟩
  · rw [hs p (.inl rfl) h.pm]
    exact h.head
  · have e : datum (setG G f.nm (g, v)) (insF f (delF f.nm D.L)) = (datum G D.L).put (.string f.nm) (.lit (.int .i64 (g : Int))) := by
      unfold datum
      rw [DataW.put_eq, ent_ins, ent_congr fun x hx => by rw [other x hx], ent_del, ent, setG_same]
      rfl
    rw [← e] at hm
    have := tight hm
    rw [List.length_map] at this
    exact this
  · intro x hx
    rcases mem_ins.1 hx with rfl | hx
    · rw [setG_same]
      exact hF
    · rw [other x hx]
      have hx' := (mem_del.1 hx).1
      exact (h.file x hx').same (hs _ (.inr (.inr ⟨x, hx, .inl rfl⟩)) (h.mg hx').symm) fun b hb => hs b (.inr (.inr ⟨x, hx, .inr hb⟩)) (h.mr hx' hb).symm
  · intro x hx y hy hne
    rcases mem_ins.1 hx with rfl | hx <;> rcases mem_ins.1 hy with rfl | hy
    · exact absurd rfl hne
    · rw [setG_same, other y hy]
      exact ⟨hg y hy, fun b hb => hv b hb y hy⟩
    · rw [setG_same, other x hx]
      exact ⟨(hg x hx).symm, fun b hb e => hv b e x hx hb⟩
    · rw [other x hx, other y hy]
      exact h.apart x (mem_del.1 hx).1 y (mem_del.1 hy).1 hne
theorem zone_put {f : Fi} {x : Nat × Value} : ∀ b, zone p m (setG G f.nm x) (insF f (delF f.nm D.L)) b → zone p m G D.L b ∨ b = x.1 ∨ x.2.ownBlock = some b := by
  rintro b (rfl | rfl | ⟨y, hy, hb⟩)
  · exact .inl (.inl rfl)
  · exact .inl (.inr (.inl rfl))
  · rcases mem_ins.1 hy with rfl | hy
    · rw [setG_same] at hb
      exact .inr hb
    · obtain ⟨hy, hne⟩ := mem_del.1 hy
      rw [setG_other _ _ hne] at hb
      exact .inl (.inr (.inr ⟨y, hy, hb⟩))
end
end Go.Proofs.YtdmgobffhpgjlaaGreat.Pk
