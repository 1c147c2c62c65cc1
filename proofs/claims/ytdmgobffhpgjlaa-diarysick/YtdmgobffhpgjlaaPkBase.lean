/-
  The disk as the document tells it: its files by rising names, and what each call makes of it. No program text.
  The library's contracts on the sorted keys of a map, at this program: its own text is the one that the contracts were proved of.
  The disk in memory: its struct, its map of names to files, its files and their rows of bytes; what stays, what turns.
  Contracts of the smallest functions of package plank: New, areNames, Off, fail, begin, find, reach, Ops, Down.
  Whole structs and arrays, out of memory and into it.
  Contracts of Off, Arm, Ops, Down, fail, begin, find and reach.
  Contracts of find, reach, Arm, Ops, Down, Size, Safe.
  Rows of bytes: read as a text, cut, appended to, one byte turned, made of a text.
  Contracts of Size, Safe, Bytes, Used, Names and Arm.
-/
import Derived.Sort.KeysCollected
import Derived.Test.YtdmgobffhpgjlaaProg
import Derived.Shelf.SlIter.Nil
import Derived.Shelf.SortM.Plain
import Derived.Shelf.SortM.SortNone
import Derived.Ground.GgzProg
import Derived.Ground.SlgmProg
import Derived.Test.YtdmgobffhpgjlaaRows
import Derived.Maps.RangeWalk
import Derived.Laws.Rows
import Derived.Laws.CopyRow
import Derived.Lib.Hide
import Derived.Great.BuildSlice
import Derived.PlainAid
import Derived.StillTailTactics
import Derived.BigQuiet
import Derived.OrdersHeld
import Derived.Maps.OwnSet
import Derived.Deep.RegionHeld3
import Derived.Deep.Cut
import Derived.Lib.AppendStr
import Derived.Lib.ConvBytes
import Derived.Laws.IdiomCopy
section
namespace Go.Proofs.Ytdmgobffhpgjlaa.Pk
set_option linter.unusedVariables false
set_option maxRecDepth 20000
set_option linter.unusedSimpArgs false

abbrev Bs := List UInt8
/-- a file: its name, its bytes, how many of them are safe -/
structure Fi where
  nm : Bs
  bs : Bs
  sf : Nat

/-! ### lists of files -/
def insF (f : Fi) : List Fi → List Fi
  | [] => [f]
  | y :: r => if bytesBefore f.nm y.nm then f :: y :: r else y :: insF f r
def getF (k : Bs) (l : List Fi) : Option Fi := l.find? fun x => x.nm == k
def delF (k : Bs) (l : List Fi) : List Fi := l.filter fun x => !(x.nm == k)
def updF (k : Bs) (g : Fi) (l : List Fi) : List Fi := l.map fun x => if x.nm == k then g else x
def usedF : List Fi → Nat
  | [] => 0
  | x :: r => x.bs.length + usedF r
def Up (l : List Fi) : Prop := l.Pairwise fun x y => bytesBefore x.nm y.nm = true

theorem mem_ins {f x : Fi} : ∀ {l : List Fi}, x ∈ insF f l ↔ x = f ∨ x ∈ l
  | [] => by simp [insF]
  | y :: r => by
    unfold insF
    split
    · simp
    · simp only [List.mem_cons, mem_ins (l := r)]
      constructor
      · rintro (h | h | h)
        · exact .inr (.inl h)
        · exact .inl h
        · exact .inr (.inr h)
      · rintro (h | h | h)
        · exact .inr (.inl h)
        · exact .inl h
        · exact .inr (.inr h)
theorem mem_del {k : Bs} {x : Fi} {l : List Fi} : x ∈ delF k l ↔ x ∈ l ∧ x.nm ≠ k := by simp [delF]
theorem mem_upd {k : Bs} {g x : Fi} {l : List Fi} : x ∈ updF k g l ↔ (x = g ∧ ∃ y ∈ l, y.nm = k) ∨ (x ∈ l ∧ x.nm ≠ k) := by
  unfold updF
  rw [List.mem_map]
  constructor
  · rintro ⟨y, hy, e⟩
    by_cases h : y.nm = k
    · rw [if_pos (by simpa using h)] at e
      exact .inl ⟨e.symm, y, hy, h⟩
    · rw [if_neg (by simpa using h)] at e
      exact .inr ⟨e ▸ hy, e ▸ h⟩
  · rintro (⟨rfl, y, hy, h⟩ | ⟨hx, h⟩)
    · exact ⟨y, hy, by rw [if_pos (by simpa using h)]⟩
    · exact ⟨x, hx, by rw [if_neg (by simpa using h)]⟩
theorem get_some {k : Bs} {l : List Fi} {f : Fi} (h : getF k l = some f) : f ∈ l ∧ f.nm = k := ⟨List.mem_of_find?_eq_some h, by simpa using List.find?_some h⟩
theorem get_none {k : Bs} {l : List Fi} (h : getF k l = none) : ∀ f ∈ l, f.nm ≠ k := by
  intro f hf e
  have := List.find?_eq_none.1 h f hf
  simp [e] at this
theorem Up.ne {l : List Fi} (h : Up l) : l.Pairwise fun x y => x.nm ≠ y.nm := h.imp fun {x y} hxy e => by
  rw [e, WideAt.bytes_irrefl] at hxy
  cases hxy
theorem uniq {l : List Fi} (h : l.Pairwise fun x y => x.nm ≠ y.nm) : ∀ {x y : Fi}, x ∈ l → y ∈ l → x.nm = y.nm → x = y := by
  induction l with
  | nil => intro x y hx; simp at hx
  | cons a r ih =>
    obtain ⟨h1, h2⟩ := List.pairwise_cons.1 h
    intro x y hx hy e
    rcases List.mem_cons.1 hx with rfl | hx
    · rcases List.mem_cons.1 hy with rfl | hy
      · rfl
      · exact absurd e (h1 y hy)
    · rcases List.mem_cons.1 hy with ey | hy
      · exact absurd (ey ▸ e).symm (h1 x hx)
      · exact ih h2 hx hy e
theorem Up.uniq {l : List Fi} (h : Up l) {x y : Fi} (hx : x ∈ l) (hy : y ∈ l) (e : x.nm = y.nm) : x = y := Pk.uniq h.ne hx hy e
theorem get_mem {l : List Fi} (h : Up l) {f : Fi} (hf : f ∈ l) : getF f.nm l = some f := by
  cases hg : getF f.nm l with
  | none => exact absurd rfl (get_none hg f hf)
  | some x =>
    obtain ⟨h1, h2⟩ := get_some hg
    rw [h.uniq h1 hf h2]
theorem Up.del {l : List Fi} (h : Up l) (k : Bs) : Up (delF k l) := List.Pairwise.filter _ h
theorem Up.ins {f : Fi} : ∀ {l : List Fi}, Up l → (∀ x ∈ l, x.nm ≠ f.nm) → Up (insF f l)
  | [], _, _ => by simp [insF, Up]
  | y :: r, h, hne => by
    obtain ⟨h1, h2⟩ := List.pairwise_cons.1 h
    unfold insF
    split
    · rename_i hb
      refine List.pairwise_cons.2 ⟨fun q hq => ?_, h⟩
      rcases List.mem_cons.1 hq with rfl | hq
      · exact hb
      · exact WideShapes.bytes_trans _ _ _ hb (h1 q hq)
    · rename_i hb
      have hyx : bytesBefore y.nm f.nm = true := by
        rcases WideAt.bytes_total _ _ (hne y (by simp)) with h' | h'
        · exact h'
        · exact absurd h' hb
      refine List.pairwise_cons.2 ⟨fun q hq => ?_, Up.ins h2 fun x hx => hne x (by simp [hx])⟩
      rcases mem_ins.1 hq with rfl | hq
      · exact hyx
      · exact h1 q hq
theorem Up.upd {l : List Fi} (h : Up l) {k : Bs} {g : Fi} (hg : g.nm = k) : Up (updF k g l) := by
  refine List.pairwise_map.2 (h.imp fun {x y} hxy => ?_)
  have e : ∀ z : Fi, (if z.nm == k then g else z).nm = z.nm := by
    intro z
    by_cases hz : z.nm = k
    · rw [if_pos (by simpa using hz), hg, hz]
    · rw [if_neg (by simpa using hz)]
  rw [e, e]
  exact hxy
theorem used_ins (f : Fi) : ∀ l : List Fi, usedF (insF f l) = f.bs.length + usedF l
  | [] => rfl
  | y :: r => by
    unfold insF
    split
    · rfl
    · simp [usedF, used_ins f r]; omega
theorem len_ins (f : Fi) : ∀ l : List Fi, (insF f l).length = l.length + 1
  | [] => rfl
  | y :: r => by
    unfold insF
    split
    · rfl
    · simp [len_ins f r]
theorem del_none {k : Bs} : ∀ {l : List Fi}, (∀ f ∈ l, f.nm ≠ k) → delF k l = l := fun {l} h => List.filter_eq_self.2 fun x hx => by simpa using h x hx
theorem used_del {l : List Fi} (h : l.Pairwise fun x y => x.nm ≠ y.nm) {f : Fi} (hf : f ∈ l) : usedF (delF f.nm l) + f.bs.length = usedF l := by
  induction l with
  | nil => simp at hf
  | cons a r ih =>
    obtain ⟨h1, h2⟩ := List.pairwise_cons.1 h
    rcases List.mem_cons.1 hf with rfl | hf
    · have : delF f.nm (f :: r) = r := by
        have := del_none (k := f.nm) (l := r) fun x hx => (h1 x hx).symm
        simp only [delF, List.filter_cons, beq_self_eq_true, Bool.not_true, Bool.false_eq_true, if_false] at this ⊢
        exact this
      rw [this]
      simp [usedF]; omega
    · have : delF f.nm (a :: r) = a :: delF f.nm r := by
        simp only [delF, List.filter_cons]
        rw [if_pos (by simpa using h1 f hf)]
      rw [this]
      have := ih h2 hf
      simp [usedF]; omega
theorem len_del {l : List Fi} (h : l.Pairwise fun x y => x.nm ≠ y.nm) {f : Fi} (hf : f ∈ l) : (delF f.nm l).length + 1 = l.length := by
  induction l with
  | nil => simp at hf
  | cons a r ih =>
    obtain ⟨h1, h2⟩ := List.pairwise_cons.1 h
    rcases List.mem_cons.1 hf with rfl | hf
    · have : delF f.nm (f :: r) = r := by
        have := del_none (k := f.nm) (l := r) fun x hx => (h1 x hx).symm
        simp only [delF, List.filter_cons, beq_self_eq_true, Bool.not_true, Bool.false_eq_true, if_false] at this ⊢
        exact this
      rw [this]
      simp
    · have : delF f.nm (a :: r) = a :: delF f.nm r := by
        simp only [delF, List.filter_cons]
        rw [if_pos (by simpa using h1 f hf)]
      rw [this]
      have := ih h2 hf
      simp; omega
theorem len_upd (k : Bs) (g : Fi) (l : List Fi) : (updF k g l).length = l.length := by simp [updF]
theorem upd_none {k : Bs} {g : Fi} {l : List Fi} (h : ∀ f ∈ l, f.nm ≠ k) : updF k g l = l := by
  unfold updF
  conv => rhs; rw [← List.map_id l]
  refine List.map_congr_left fun x hx => ?_
  rw [if_neg (by simpa using h x hx)]
  rfl
theorem used_upd {l : List Fi} (h : l.Pairwise fun x y => x.nm ≠ y.nm) {f : Fi} (hf : f ∈ l) (g : Fi) : usedF (updF f.nm g l) + f.bs.length = usedF l + g.bs.length := by
  induction l with
  | nil => simp at hf
  | cons a r ih =>
    obtain ⟨h1, h2⟩ := List.pairwise_cons.1 h
    rcases List.mem_cons.1 hf with rfl | hf
    · have : updF f.nm g (f :: r) = g :: r := by
        have := upd_none (k := f.nm) (g := g) (l := r) fun x hx => (h1 x hx).symm
        simp only [updF, List.map_cons, beq_self_eq_true, if_true] at this ⊢
        rw [this]
      rw [this]
      simp [usedF]; omega
    · have : updF f.nm g (a :: r) = a :: updF f.nm g r := by
        simp only [updF, List.map_cons]
        rw [if_neg (by simpa using h1 f hf)]
      rw [this]
      have := ih h2 hf
      simp [usedF]; omega
theorem mem_used {l : List Fi} {f : Fi} (hf : f ∈ l) : f.bs.length ≤ usedF l := by
  induction l with
  | nil => simp at hf
  | cons a r ih =>
    rcases List.mem_cons.1 hf with rfl | hf
    · simp [usedF]
    · have := ih hf
      simp [usedF]; omega

/-! ### the disk -/
structure Dk where
  room : Int
  ops : Int
  off : Bool
  kd : Int
  fa : Int
  fm : Int
  L : List Fi
def isName (s : Bs) : Bool := decide (1 ≤ s.length ∧ s.length ≤ 80)
structure Dk.Ok (D : Dk) : Prop where
  room0 : 0 ≤ D.room
  room1 : D.room ≤ 4194304
  ops0 : 0 ≤ D.ops
  kd : D.kd = 0 ∨ D.kd = 1 ∨ D.kd = 2
  fa0 : 0 ≤ D.fa
  fa1 : D.fa ≤ 2199023255552
  fm0 : 0 ≤ D.fm
  fm1 : D.fm ≤ 9223372036854775807
  up : Up D.L
  names : ∀ f ∈ D.L, isName f.nm = true
  safe : ∀ f ∈ D.L, f.sf ≤ f.bs.length
  used : (usedF D.L : Int) ≤ D.room
  cnt : D.L.length ≤ 200
def Dk.new (room : Int) : Dk := ⟨min (max room 0) 4194304, 0, false, 0, 0, 0, []⟩
def Dk.offd (D : Dk) : Dk := { D with off := true, kd := 0, fa := 0, fm := 0 }
def Dk.fail (D : Dk) : Int × Dk :=
  if D.kd = 0 ∨ D.ops - D.fa < 0 ∨ D.fm < D.ops - D.fa then (0, D) else if D.kd = 1 then (11, D) else (12, D.offd)
def Dk.beg (D : Dk) (good : Bool) : Int × Dk :=
  if good = false then (1, D) else if D.off = true then (12, D) else { D with ops := D.ops + 1 }.fail
def Dk.create (D : Dk) (nm : Bs) : Int × Dk :=
  let r := D.beg (isName nm)
  if r.1 ≠ 0 then r else
  if (getF nm r.2.L).isSome then (9, r.2) else
  if 200 ≤ r.2.L.length then (6, r.2) else (0, { r.2 with L := insF ⟨nm, [], 0⟩ r.2.L })
def Dk.append (D : Dk) (nm s : Bs) : Int × Dk :=
  let r := D.beg (isName nm)
  if r.1 ≠ 0 then r else
  match getF nm r.2.L with
  | none => (7, r.2)
  | some f => if r.2.room < (usedF r.2.L : Int) + (s.length : Int) then (6, r.2) else (0, { r.2 with L := updF nm ⟨nm, f.bs ++ s, f.sf⟩ r.2.L })
def Dk.read (D : Dk) (nm : Bs) (pos n : Int) : Bs × Int × Dk :=
  let r := D.beg (isName nm && decide (0 ≤ pos) && decide (0 ≤ n))
  if r.1 ≠ 0 then ([], r) else
  match getF nm r.2.L with
  | none => ([], 7, r.2)
  | some f => if (f.bs.length : Int) < pos then ([], 14, r.2) else ((f.bs.drop pos.toNat).take n.toNat, 0, r.2)
def Dk.sync (D : Dk) (nm : Bs) : Int × Dk :=
  let r := D.beg (isName nm)
  if r.1 ≠ 0 then r else
  match getF nm r.2.L with
  | none => (7, r.2)
  | some f => (0, { r.2 with L := updF nm ⟨nm, f.bs, f.bs.length⟩ r.2.L })
def Dk.rename (D : Dk) (nm to : Bs) : Int × Dk :=
  let r := D.beg (isName nm && isName to)
  if r.1 ≠ 0 then r else
  match getF nm r.2.L with
  | none => (7, r.2)
  | some f => (0, { r.2 with L := insF ⟨to, f.bs, f.sf⟩ (delF to (delF nm r.2.L)) })
def Dk.delete (D : Dk) (nm : Bs) : Int × Dk :=
  let r := D.beg (isName nm)
  if r.1 ≠ 0 then r else
  match getF nm r.2.L with
  | none => (7, r.2)
  | some _ => (0, { r.2 with L := delF nm r.2.L })
def Dk.arm (D : Dk) (pos kind more : Int) : Dk :=
  if pos < 1 ∨ 1099511627776 < pos ∨ (kind ≠ 1 ∧ kind ≠ 2) then { D with kd := 0, fa := 0, fm := 0 } else { D with kd := kind, fa := D.ops + pos, fm := max more 0 }
/-- files behind a new start: keeps' numbers are taken one by one by those that have unsafe bytes -/
def onL : List Int → List Fi → List Fi
  | _, [] => []
  | ks, f :: r => if f.sf = f.bs.length then f :: onL ks r else
    match ks with
    | [] => ⟨f.nm, f.bs.take f.sf, f.sf⟩ :: onL [] r
    | k :: ks' => ⟨f.nm, f.bs.take (f.sf + (max k 0).toNat % (f.bs.length - f.sf + 1)), f.sf + (max k 0).toNat % (f.bs.length - f.sf + 1)⟩ :: onL ks' r
def Dk.on (D : Dk) (ks : List Int) : Dk := if D.off = true then { D with off := false, L := onL ks D.L } else D
def Dk.flip (D : Dk) (nm : Bs) (pos : Int) (b : UInt8) : Bool × Dk :=
  match getF nm D.L with
  | none => (false, D)
  | some f => if pos < 0 ∨ (f.bs.length : Int) ≤ pos ∨ b = 0 then (false, D) else (true, { D with L := updF nm ⟨nm, f.bs.set pos.toNat (f.bs.getD pos.toNat 0 ^^^ b), f.sf⟩ D.L })
def Dk.lay (D : Dk) (nm s : Bs) : Int × Dk :=
  if isName nm = false then (1, D) else
  match getF nm D.L with
  | none => if 200 ≤ D.L.length ∨ D.room < (usedF D.L : Int) + (s.length : Int) then (6, D) else (0, { D with L := insF ⟨nm, s, s.length⟩ (delF nm D.L) })
  | some f => if D.room < (usedF D.L : Int) + (s.length : Int) - (f.bs.length : Int) then (6, D) else (0, { D with L := insF ⟨nm, s, s.length⟩ (delF nm D.L) })
def Dk.size (D : Dk) (nm : Bs) : Int := match getF nm D.L with | none => -1 | some f => (f.bs.length : Int)
def Dk.safe (D : Dk) (nm : Bs) : Int := match getF nm D.L with | none => 0 | some f => (f.sf : Int)
def Dk.bytes (D : Dk) (nm : Bs) : Bs := match getF nm D.L with | none => [] | some f => f.bs

/-! ### what is kept -/
section
variable {D : Dk}
theorem Dk.Ok.new (room : Int) : (Dk.new room).Ok := by
  constructor <;> simp [Dk.new, Up, usedF] <;> omega
theorem Dk.Ok.offd (h : D.Ok) : D.offd.Ok := ⟨h.room0, h.room1, h.ops0, .inl rfl, by simp [Dk.offd], by simp [Dk.offd], by simp [Dk.offd], by simp [Dk.offd], h.up, h.names, h.safe, h.used, h.cnt⟩
theorem Dk.Ok.count (h : D.Ok) : { D with ops := D.ops + 1 }.Ok := by
  have h0 := h.ops0
  exact ⟨h.room0, h.room1, by simp; omega, h.kd, h.fa0, h.fa1, h.fm0, h.fm1, h.up, h.names, h.safe, h.used, h.cnt⟩
theorem Dk.Ok.fail (h : D.Ok) : D.fail.2.Ok := by
  unfold Dk.fail
  split
  · exact h
  · split
    · exact h
    · exact h.offd
theorem Dk.Ok.beg (h : D.Ok) (g : Bool) : (D.beg g).2.Ok := by
  unfold Dk.beg
  split
  · exact h
  · split
    · exact h
    · exact h.count.fail
/-- the power goes once: the fault isn't behind us -/
def Dk.Pw (D : Dk) : Prop := D.kd = 2 → D.ops < D.fa
theorem Dk.Pw.beg (h : D.Pw) (ok : D.Ok) (g : Bool) : (D.beg g).2.Pw := by
  have hk := ok.kd
  have hm := ok.fm0
  unfold Dk.Pw at h
  unfold Dk.beg
  split
  · exact h
  · split
    · exact h
    · unfold Dk.fail Dk.Pw
      simp only
      split
      · simp only; omega
      · split
        · simp only; omega
        · simp [Dk.offd]
theorem fail_L (D : Dk) : D.fail.2.L = D.L ∧ D.fail.2.room = D.room ∧ D.fail.2.ops = D.ops := by
  unfold Dk.fail
  split
  · exact ⟨rfl, rfl, rfl⟩
  · split <;> exact ⟨rfl, rfl, rfl⟩
theorem beg_L (D : Dk) (g : Bool) : (D.beg g).2.L = D.L ∧ (D.beg g).2.room = D.room ∧ (D.beg g).2.ops ≤ D.ops + 1 ∧ D.ops ≤ (D.beg g).2.ops := by
  unfold Dk.beg
  split
  · exact ⟨rfl, rfl, by simp; omega, by simp⟩
  · split
    · exact ⟨rfl, rfl, by simp; omega, by simp⟩
    · obtain ⟨h1, h2, h3⟩ := fail_L { D with ops := D.ops + 1 }
      rw [h1, h2, h3]
      exact ⟨rfl, rfl, by simp, by simp; omega⟩
theorem Dk.Ok.setL (h : D.Ok) {l : List Fi} (up : Up l) (names : ∀ f ∈ l, isName f.nm = true) (safe : ∀ f ∈ l, f.sf ≤ f.bs.length) (used : (usedF l : Int) ≤ D.room) (cnt : l.length ≤ 200) : { D with L := l }.Ok :=
  ⟨h.room0, h.room1, h.ops0, h.kd, h.fa0, h.fa1, h.fm0, h.fm1, up, names, safe, used, cnt⟩
/-- a file is another one of the same name -/
theorem Dk.Ok.upd (h : D.Ok) {f : Fi} (hf : f ∈ D.L) {g : Fi} (hn : g.nm = f.nm) (hs : g.sf ≤ g.bs.length) (hu : (usedF D.L : Int) + g.bs.length ≤ D.room + f.bs.length) : { D with L := updF f.nm g D.L }.Ok := by
  refine h.setL (h.up.upd hn) ?_ ?_ ?_ (by rw [len_upd]; exact h.cnt)
  · intro x hx
    rcases mem_upd.1 hx with ⟨rfl, _⟩ | ⟨hx, _⟩
    · rw [hn]; exact h.names f hf
    · exact h.names x hx
  · intro x hx
    rcases mem_upd.1 hx with ⟨rfl, _⟩ | ⟨hx, _⟩
    · exact hs
    · exact h.safe x hx
  · have := used_upd h.up.ne hf g
    omega
theorem Dk.Ok.del (h : D.Ok) (k : Bs) : { D with L := delF k D.L }.Ok := by
  refine h.setL (h.up.del k) (fun f hf => h.names f (mem_del.1 hf).1) (fun f hf => h.safe f (mem_del.1 hf).1) ?_ ?_
  · have := h.used
    cases hg : getF k D.L with
    | none => rw [del_none (get_none hg)]; exact this
    | some f =>
      obtain ⟨h1, rfl⟩ := get_some hg
      have := used_del h.up.ne h1
      omega
  · exact Nat.le_trans (List.length_filter_le _ _) h.cnt
theorem Dk.Ok.ins (h : D.Ok) {f : Fi} (hn : isName f.nm = true) (hs : f.sf ≤ f.bs.length) (hno : ∀ x ∈ D.L, x.nm ≠ f.nm) (hu : (usedF D.L : Int) + f.bs.length ≤ D.room) (hc : D.L.length < 200) : { D with L := insF f D.L }.Ok := by
  refine h.setL (h.up.ins hno) ?_ ?_ ?_ (by rw [len_ins]; omega)
  · intro x hx
    rcases mem_ins.1 hx with rfl | hx
    · exact hn
    · exact h.names x hx
  · intro x hx
    rcases mem_ins.1 hx with rfl | hx
    · exact hs
    · exact h.safe x hx
  · rw [used_ins]; omega
theorem Dk.Ok.arm (h : D.Ok) (ho : D.ops ≤ 1099511627776) (pos kind more : Int) (hm : more ≤ 9223372036854775807) : (D.arm pos kind more).Ok := by
  unfold Dk.arm
  have h0 := h.ops0
  split
  · exact ⟨h.room0, h.room1, h.ops0, .inl rfl, by simp, by simp, by simp, by simp, h.up, h.names, h.safe, h.used, h.cnt⟩
  · rename_i c
    exact ⟨h.room0, h.room1, h.ops0, by simp; omega, by simp; omega, by simp; omega, by simp; omega, by simp; omega, h.up, h.names, h.safe, h.used, h.cnt⟩
end
end Go.Proofs.Ytdmgobffhpgjlaa.Pk
end

section
namespace Go.Proofs.Ytdmgobffhpgjlaa.Pk
open Go.RowKit Go.Maps Go.Sort Go.Shelf
set_option linter.unusedVariables false
set_option maxRecDepth 20000

def keys52_ren : Go.Shelf.Ren := ⟨fun | 7 => 52 | 10 => 69 | n => n, fun | 23 => 53 | 26 => 9 | 3 => 72 | 28 => 102 | 0 => 0 | 27 => 101 | 33 => 126 | 4 => 4 | n => n, fun | n => n⟩
theorem keys52 : Go.Proofs.SlLaysZ.n7 Try.prog keys52_ren := {
  mixed := by kernel_rfl
  f7 := ⟨Try.f52.name, by decide, Try.func52.trans (congrArg some (by kernel_rfl))⟩
  f10 := ⟨Try.f69.name, by decide, Try.func69.trans (congrArg some (by kernel_rfl))⟩
  t0 := Try.underlying0
  a0 := Try.isAgg0
  z0 := Try.sizeOf0
  v0 := Try.zeroValue0
  t4 := Try.underlying4
  a4 := Try.isAgg4
  z4 := Try.sizeOf4
  v4 := Try.zeroValue4
  t23 := Try.underlying53
  a23 := Try.isAgg53
  z23 := Try.sizeOf53
  v23 := Try.zeroValue53
  t26 := Try.underlying9
  a26 := Try.isAgg9
  z26 := Try.sizeOf9
  v26 := Try.zeroValue9
  t27 := Try.underlying101
  a27 := Try.isAgg101
  z27 := Try.sizeOf101
  v27 := Try.zeroValue101
  t28 := Try.underlying102
  a28 := Try.isAgg102
  z28 := Try.sizeOf102
  v28 := Try.zeroValue102
  t33 := Try.underlying126
  a33 := Try.isAgg126
  z33 := Try.sizeOf126
  v33 := Try.zeroValue126 }
def sorted51_ren : Go.Shelf.Ren := ⟨fun | 6 => 51 | 8 => 67 | 9 => 68 | 11 => 76 | 13 => 78 | 12 => 77 | 23 => 91 | 24 => 92 | 14 => 82 | 15 => 83 | 16 => 84 | 17 => 85 | 18 => 86 | 19 => 87 | 20 => 88 | 21 => 89 | 22 => 90 | 25 => 94 | 26 => 95 | 27 => 96 | 28 => 97 | 29 => 98 | 30 => 99 | 31 => 100 | n => n, fun | 26 => 9 | 28 => 102 | 24 => 70 | 0 => 0 | 3 => 3 | 37 => 32 | 48 => 95 | 50 => 147 | 4 => 4 | 40 => 138 | 39 => 137 | 45 => 143 | 5 => 5 | 9 => 9 | 51 => 148 | 55 => 152 | 57 => 154 | 58 => 155 | 33 => 126 | n => n, fun | n => n⟩
theorem sorted51 : Go.Proofs.SlLaysZ.n6 Try.prog sorted51_ren := {
  mixed := by kernel_rfl
  f6 := ⟨Try.f51.name, by decide, Try.func51.trans (congrArg some (by kernel_rfl))⟩
  f8 := ⟨Try.f67.name, by decide, Try.func67.trans (congrArg some (by kernel_rfl))⟩
  f11 := ⟨Try.f76.name, by decide, Try.func76.trans (congrArg some (by kernel_rfl))⟩
  t0 := Try.underlying0
  a0 := Try.isAgg0
  z0 := Try.sizeOf0
  v0 := Try.zeroValue0
  t24 := Try.underlying70
  a24 := Try.isAgg70
  z24 := Try.sizeOf70
  v24 := Try.zeroValue70
  t26 := Try.underlying9
  a26 := Try.isAgg9
  z26 := Try.sizeOf9
  v26 := Try.zeroValue9
  t28 := Try.underlying102
  a28 := Try.isAgg102
  z28 := Try.sizeOf102
  v28 := Try.zeroValue102
  i26 := by kernel_rfl }
def sort68_ren : Go.Shelf.Ren := ⟨fun | 6 => 68 | 8 => 78 | 9 => 77 | 19 => 91 | 20 => 92 | 21 => 82 | 22 => 83 | 23 => 84 | 24 => 85 | 25 => 86 | 26 => 87 | 27 => 88 | 28 => 89 | 29 => 90 | 36 => 94 | 31 => 95 | 32 => 96 | 37 => 97 | 38 => 98 | 39 => 99 | 41 => 100 | n => n, fun | 27 => 70 | 29 => 9 | 3 => 3 | 32 => 32 | 26 => 70 | 0 => 0 | 44 => 95 | 46 => 147 | 4 => 4 | 36 => 138 | 35 => 137 | 41 => 143 | 5 => 5 | 9 => 9 | 53 => 148 | 57 => 152 | 63 => 154 | 64 => 155 | n => n, fun | n => n⟩
theorem sort68 : Go.Proofs.SlLaysM.n6 Try.prog sort68_ren := {
  mixed := by kernel_rfl
  f6 := ⟨Try.f68.name, by decide, Try.func68.trans (congrArg some (by kernel_rfl))⟩
  f8 := Try.func78.trans (congrArg some (by kernel_rfl))
  f9 := ⟨Try.f77.name, by decide, Try.func77.trans (congrArg some (by kernel_rfl))⟩
  f19 := Try.func91.trans (congrArg some (by kernel_rfl))
  f20 := Try.func92.trans (congrArg some (by kernel_rfl))
  f21 := ⟨Try.f82.name, by decide, Try.func82.trans (congrArg some (by kernel_rfl))⟩
  f22 := ⟨Try.f83.name, by decide, Try.func83.trans (congrArg some (by kernel_rfl))⟩
  f23 := ⟨Try.f84.name, by decide, Try.func84.trans (congrArg some (by kernel_rfl))⟩
  f24 := ⟨Try.f85.name, by decide, Try.func85.trans (congrArg some (by kernel_rfl))⟩
  f25 := ⟨Try.f86.name, by decide, Try.func86.trans (congrArg some (by kernel_rfl))⟩
  f26 := ⟨Try.f87.name, by decide, Try.func87.trans (congrArg some (by kernel_rfl))⟩
  f27 := ⟨Try.f88.name, by decide, Try.func88.trans (congrArg some (by kernel_rfl))⟩
  f28 := ⟨Try.f89.name, by decide, Try.func89.trans (congrArg some (by kernel_rfl))⟩
  f29 := ⟨Try.f90.name, by decide, Try.func90.trans (congrArg some (by kernel_rfl))⟩
  f31 := Try.func95.trans (congrArg some (by kernel_rfl))
  f32 := Try.func96.trans (congrArg some (by kernel_rfl))
  f36 := ⟨Try.f94.name, by decide, Try.func94.trans (congrArg some (by kernel_rfl))⟩
  f37 := ⟨Try.f97.name, by decide, Try.func97.trans (congrArg some (by kernel_rfl))⟩
  f38 := ⟨Try.f98.name, by decide, Try.func98.trans (congrArg some (by kernel_rfl))⟩
  f39 := ⟨Try.f99.name, by decide, Try.func99.trans (congrArg some (by kernel_rfl))⟩
  f41 := ⟨Try.f100.name, by decide, Try.func100.trans (congrArg some (by kernel_rfl))⟩
  t0 := Try.underlying0
  a0 := Try.isAgg0
  z0 := Try.sizeOf0
  v0 := Try.zeroValue0
  t3 := Try.underlying3
  a3 := Try.isAgg3
  z3 := Try.sizeOf3
  v3 := Try.zeroValue3
  t4 := Try.underlying4
  a4 := Try.isAgg4
  z4 := Try.sizeOf4
  v4 := Try.zeroValue4
  t5 := Try.underlying5
  a5 := Try.isAgg5
  z5 := Try.sizeOf5
  v5 := Try.zeroValue5
  t9 := Try.underlying9
  a9 := Try.isAgg9
  z9 := Try.sizeOf9
  v9 := Try.zeroValue9
  t26 := Try.underlying70
  a26 := Try.isAgg70
  z26 := Try.sizeOf70
  v26 := Try.zeroValue70
  t27 := Try.underlying70
  a27 := Try.isAgg70
  z27 := Try.sizeOf70
  v27 := Try.zeroValue70
  t29 := Try.underlying9
  a29 := Try.isAgg9
  z29 := Try.sizeOf9
  v29 := Try.zeroValue9
  t32 := Try.underlying32
  a32 := Try.isAgg32
  z32 := Try.sizeOf32
  v32 := Try.zeroValue32
  t35 := Try.underlying137
  a35 := Try.isAgg137
  z35 := Try.sizeOf137
  v35 := Try.zeroValue137
  t36 := Try.underlying138
  a36 := Try.isAgg138
  z36 := Try.sizeOf138
  v36 := Try.zeroValue138
  t41 := Try.underlying143
  a41 := Try.isAgg143
  z41 := Try.sizeOf143
  v41 := Try.zeroValue143
  t44 := Try.underlying95
  a44 := Try.isAgg95
  z44 := Try.sizeOf95
  v44 := Try.zeroValue95
  t46 := Try.underlying147
  a46 := Try.isAgg147
  z46 := Try.sizeOf147
  v46 := Try.zeroValue147
  t53 := Try.underlying148
  a53 := Try.isAgg148
  z53 := Try.sizeOf148
  v53 := Try.zeroValue148
  t57 := Try.underlying152
  a57 := Try.isAgg152
  z57 := Try.sizeOf152
  v57 := Try.zeroValue152
  t63 := Try.underlying154
  a63 := Try.isAgg154
  z63 := Try.sizeOf154
  v63 := Try.zeroValue154
  t64 := Try.underlying155
  a64 := Try.isAgg155
  z64 := Try.sizeOf155
  v64 := Try.zeroValue155 }


theorem sorts51 (m : Nat) : AnyZ.SortsIn Try.prog sorted51_ren Fence.wide m :=
  ⟨fun blk off cap ss W hH hblk hsz => callsIn_wide.2 (AnyM.slices_Sort_string sort68 blk off cap ss W hH hblk hsz),
   fun p cap W => callsIn_wide.2 (AnyM.slices_Sort_string_none sort68 p cap W)⟩

theorem keys_call (mb : Option Nat) (W : World) : CallsIn Fence.wide 5 Try.prog 52 #[.map mb] W fun e w' => e = .returned (.func (.func 69) #[] #[.pointer (some ⟨W.heap.size, 0, none⟩)]) ∧ w' = W.alloc (.cells #[.map mb] 53) :=
  AnyZ.keys_in keys52 Fence.wide 5 trivial rfl mb W

set_option maxHeartbeats 1000000 in
theorem sorted_call {H : Type} (b nn : Nat) (D0 : DataW H) (R : Value → Option (DataW H × List MemPlace)) (w : World) (hown : w.ownsMap Try.prog 9 R b nn D0) (hmax : Maps.size D0 ≤ maxLen) (hbytes : Maps.size D0 * 16 ≤ 140737488355328) :
    CallsIn Fence.wide 5 Try.prog 51 #[.func (.func 69) #[] #[.pointer (some ⟨w.heap.size, 0, none⟩)]] (w.alloc (.cells #[.map (some b)] 53)) fun e w' => ∃ (v : Value) (ss : List (List UInt8)), e = .returned v ∧ ss.Perm (strKeys D0) ∧
      w'.ownsRow (w.alloc (.cells #[.map (some b)] 53)).heap.size 9 1 v ss.length ((ss.mergeSort (fun x y => decide (x ≤ y))).map encStr) ∧ (v = .slice none 0 0 ↔ ss = []) ∧ Below (w.alloc (.cells #[.map (some b)] 53)).heap.size (w.alloc (.cells #[.map (some b)] 53)) w' := by
  have hbl := hown.lt
  have hseq : SeqGives Fence.wide 2 Try.prog 69 #[.pointer (some ⟨w.heap.size, 0, none⟩)] encStr (fun ss => ss.Perm (strKeys D0)) (Maps.size D0) (w.alloc (.cells #[.map (some b)] 53)) :=
    AnyZ.keys_gives (ρ := keys52_ren) { keys52 with } Fence.wide _ trivial rfl (by omega) w.heap.size b nn D0 _ (by simp) (by simp) (by
      obtain ⟨es, clock, hb, Ft, hs, hD⟩ := hown
      exact ⟨es, clock, (Below.heap_alloc _ _ b hbl).trans hb, Ft, hs, hD⟩)
  exact AnyZ.sorted_in sorted51 Fence.wide 5 trivial trivial trivial trivial rfl (by omega) (sorts51 _) (enters_of Try.func68 (by kernel_rfl) rfl) 69 #[.pointer (some ⟨w.heap.size, 0, none⟩)] trivial (enters_of Try.func69 (by kernel_rfl) rfl) _ _ hmax hbytes _ hseq

set_option maxHeartbeats 1000000 in
theorem sorted_nil_call (w : World) :
    CallsIn Fence.wide 5 Try.prog 51 #[.func (.func 69) #[] #[.pointer (some ⟨w.heap.size, 0, none⟩)]] (w.alloc (.cells #[.map none] 53)) fun e w' => ∃ (v : Value) (ss : List (List UInt8)), e = .returned v ∧ ss = [] ∧
      w'.ownsRow (w.alloc (.cells #[.map none] 53)).heap.size 9 1 v ss.length ((ss.mergeSort (fun x y => decide (x ≤ y))).map encStr) ∧ (v = .slice none 0 0 ↔ ss = []) ∧ Below (w.alloc (.cells #[.map none] 53)).heap.size (w.alloc (.cells #[.map none] 53)) w' := by
  have hseq : SeqGives Fence.wide 2 Try.prog 69 #[.pointer (some ⟨w.heap.size, 0, none⟩)] encStr (fun ss : List (List UInt8) => ss = []) 0 (w.alloc (.cells #[.map none] 53)) :=
    AnyZ.keys_gives_nil (ρ := keys52_ren) { keys52 with } Fence.wide _ trivial rfl w.heap.size _ (by simp) (by simp)
  exact AnyZ.sorted_in sorted51 Fence.wide 5 trivial trivial trivial trivial rfl (by omega) (sorts51 _) (enters_of Try.func68 (by kernel_rfl) rfl) 69 #[.pointer (some ⟨w.heap.size, 0, none⟩)] trivial (enters_of Try.func69 (by kernel_rfl) rfl) _ 0 (Nat.zero_le _) (by omega) _ hseq
end Go.Proofs.Ytdmgobffhpgjlaa.Pk
end

section
namespace Go.Proofs.Ytdmgobffhpgjlaa.Pk
open Go.RowKit Go.Maps
open Go.ChangeMaps (notKey putKey delKey)
set_option linter.unusedVariables false
set_option maxRecDepth 20000
set_option linter.unusedSimpArgs false

def bv (c : UInt8) : Value := .int .u8 (c.toNat : Int)
/-- how an element of the map is read: the number of its block -/
def RF (v : Value) : Option (DataW Unit × List MemPlace) :=
  match v with
  | .pointer none => some (.nil, [])
  | .pointer (some ⟨g, 0, none⟩) => some (.lit (.int .i64 (g : Int)), [])
  | _ => none
theorem RF_ptr (g : Nat) : RF (.pointer (some ⟨g, 0, none⟩)) = some (.lit (.int .i64 (g : Int)), []) := rfl
theorem RF_nil {v : Value} {ps : List MemPlace} (h : RF v = some (.nil, ps)) : v = .pointer none := by
  unfold RF at h
  split at h
  · rfl
  · cases h
  · cases h
theorem RF_inv {v : Value} {g : Nat} {ps : List MemPlace} (h : RF v = some (.lit (.int .i64 (g : Int)), ps)) : v = .pointer (some ⟨g, 0, none⟩) := by
  unfold RF at h
  split at h
  · cases h
  · simp only [Option.some.injEq, Prod.mk.injEq, DataW.lit.injEq, Lit.int.injEq, true_and] at h
    rw [show _ = g from Int.ofNat_inj.1 h.1]
  · cases h
theorem RF_shape {v : Value} {y : DataW Unit × List MemPlace} (h : RF v = some y) : ∃ o : Option Nat, v = .pointer (o.map fun g => ⟨g, 0, none⟩) := by
  unfold RF at h
  split at h
  · exact ⟨none, rfl⟩
  · exact ⟨some _, rfl⟩
  · cases h

abbrev Gs := Bs → Nat × Value
def setG (G : Gs) (k : Bs) (x : Nat × Value) : Gs := fun n => if n = k then x else G n
theorem setG_same (G : Gs) (k : Bs) (x : Nat × Value) : setG G k x k = x := if_pos rfl
theorem setG_other (G : Gs) {k n : Bs} (x : Nat × Value) (h : n ≠ k) : setG G k x n = G n := if_neg h
def ent (G : Gs) (f : Fi) : Lit × DataW Unit := (.string f.nm, .lit (.int .i64 ((G f.nm).1 : Int)))
def datum (G : Gs) (l : List Fi) : DataW Unit := .map (l.map (ent G))

theorem ent_ins (G : Gs) (f : Fi) : ∀ l : List Fi, (insF f l).map (ent G) = DataW.insert (ent G f) (l.map (ent G))
  | [] => rfl
  | y :: r => by
    unfold insF
    simp only [List.map_cons, DataW.insert]
    have e : (ent G f).1.before (ent G y).1 = bytesBefore f.nm y.nm := rfl
    rw [e]
    by_cases hb : bytesBefore f.nm y.nm = true
    · rw [if_pos hb, if_pos hb]
      rfl
    · rw [if_neg hb, if_neg hb, List.map_cons, ent_ins G f r]
theorem ent_del (G : Gs) (k : Bs) (l : List Fi) : (delF k l).map (ent G) = (l.map (ent G)).filter (notKey (.string k)) := by
  rw [List.filter_map]
  rfl
theorem ent_congr {G G' : Gs} {l : List Fi} (h : ∀ f ∈ l, (G' f.nm).1 = (G f.nm).1) : l.map (ent G') = l.map (ent G) := List.map_congr_left fun f hf => by simp [ent, h f hf]
theorem ent_upd {G : Gs} {k : Bs} {g : Fi} (hg : g.nm = k) (l : List Fi) : (updF k g l).map (ent G) = l.map (ent G) := by
  unfold updF
  rw [List.map_map]
  refine List.map_congr_left fun f hf => ?_
  simp only [Function.comp]
  by_cases h : f.nm = k
  · rw [if_pos (by simpa using h)]
    simp [ent, hg, h]
  · rw [if_neg (by simpa using h)]
theorem datum_put (G : Gs) (f : Fi) (l : List Fi) : (datum G l).put (.string f.nm) (.lit (.int .i64 ((G f.nm).1 : Int))) = datum G (insF f (delF f.nm l)) := by
  unfold datum
  rw [DataW.put_eq, ent_ins, ent_del]
  rfl
theorem datum_del (G : Gs) (k : Bs) (l : List Fi) : (datum G l).del (.string k) = datum G (delF k l) := by
  unfold datum
  rw [DataW.del_eq, ent_del]
  rfl
theorem datum_at (G : Gs) (k : Bs) (l : List Fi) (z : DataW Unit) : (datum G l).atKey (.string k) z = match getF k l with | none => z | some f => .lit (.int .i64 ((G f.nm).1 : Int)) := by
  unfold datum DataW.atKey getF
  induction l with
  | nil => rfl
  | cons a r ih =>
    simp only [List.map_cons, List.find?_cons, ent, Lit.sameKey]
    cases a.nm == k
    · exact ih
    · rfl
theorem datum_size (G : Gs) (l : List Fi) : Maps.size (datum G l) = l.length := by simp [datum, Maps.size]
theorem tight {w : World} {P : Program} {k : TypeId} {b n : Nat} {l : List (Lit × DataW Unit)} {R : Value → Option (DataW Unit × List MemPlace)} (h : w.ownsMap P k R b n (.map l)) : w.ownsMap P k R b l.length (.map l) := by
  obtain ⟨es, clock, hb, F, hs, hD⟩ := h
  refine ⟨es, clock, hb, F, ?_, hD⟩
  have : l.length = es.size := by
    rw [DataW.map.injEq] at hD
    rw [hD, length_sorted]
    simp
  omega

/-- v is the row of bytes bs, in a block of its own: no cell of it is frozen -/
def RowB (w : World) (v : Value) (bs : Bs) : Prop :=
  (v = .slice none 0 0 ∧ bs = []) ∨ ∃ g cap cur fr, v = .slice (some ⟨g, 0, none⟩) bs.length cap ∧ w.heap[g]? = some (.cells cur 5 fr) ∧ (fr = (0, 0) ∨ fr = (cur.size, cur.size + 1)) ∧ bs.length ≤ cap ∧ cap ≤ maxLen ∧ cur.size = cap ∧ cur.toList.take bs.length = bs.map bv
structure FileAt (w : World) (f : Fi) (x : Nat × Value) : Prop where
  st : w.heap[x.1]? = some (.cells #[x.2, .int .i64 (f.sf : Int)] 75 (0, 0))
  row : RowB w x.2 f.bs
def headV (m : Nat) (D : Dk) : Array Value := #[.int .i64 D.room, .map (some m), .int .i64 D.ops, .bool D.off, .int .i64 D.kd, .int .i64 D.fa, .int .i64 D.fm]
structure DiskAt (w : World) (p m : Nat) (G : Gs) (D : Dk) : Prop where
  head : w.heap[p]? = some (.cells (headV m D) 57 (0, 0))
  map : w.ownsMap Try.prog 9 RF m D.L.length (datum G D.L)
  file : ∀ f ∈ D.L, FileAt w f (G f.nm)
  apart : ∀ f ∈ D.L, ∀ h ∈ D.L, f.nm ≠ h.nm → (G f.nm).1 ≠ (G h.nm).1 ∧ ∀ b, (G f.nm).2.ownBlock = some b → (G h.nm).2.ownBlock ≠ some b
  ok : D.Ok
def zone (p m : Nat) (G : Gs) (l : List Fi) (b : Nat) : Prop := b = p ∨ b = m ∨ ∃ f ∈ l, b = (G f.nm).1 ∨ (G f.nm).2.ownBlock = some b

theorem row_same {w w' : World} {v : Value} {bs : Bs} (h : RowB w v bs) (hs : ∀ b, v.ownBlock = some b → w'.heap[b]? = w.heap[b]?) : RowB w' v bs := by
  rcases h with hn | ⟨g, cap, cur, fr, rfl, hg, rest⟩
  · exact .inl hn
  · exact .inr ⟨g, cap, cur, fr, rfl, by rw [hs g rfl]; exact hg, rest⟩
theorem map_same {w w' : World} {P : Program} {k : TypeId} {R : Value → Option (DataW Unit × List MemPlace)} {b n : Nat} {D : DataW Unit} (h : w.ownsMap P k R b n D) (hs : w'.heap[b]? = w.heap[b]?) : w'.ownsMap P k R b n D := by
  obtain ⟨es, clock, hb, r⟩ := h
  exact ⟨es, clock, by rw [hs]; exact hb, r⟩
theorem FileAt.same {w w' : World} {f : Fi} {x : Nat × Value} (h : FileAt w f x) (h1 : w'.heap[x.1]? = w.heap[x.1]?) (h2 : ∀ b, x.2.ownBlock = some b → w'.heap[b]? = w.heap[b]?) : FileAt w' f x := ⟨by rw [h1]; exact h.st, row_same h.row h2⟩
theorem row_block {w : World} {v : Value} {bs : Bs} (h : RowB w v bs) {b : Nat} (hb : v.ownBlock = some b) : ∃ cur fr, w.heap[b]? = some (.cells cur 5 fr) := by
  rcases h with ⟨rfl, _⟩ | ⟨g, cap, cur, fr, rfl, hg, _⟩
  · simp [Value.ownBlock] at hb
  · simp [Value.ownBlock] at hb
    subst hb
    exact ⟨cur, fr, hg⟩
theorem map_block {w : World} {P : Program} {k : TypeId} {R : Value → Option (DataW Unit × List MemPlace)} {b n : Nat} {D : DataW Unit} (h : w.ownsMap P k R b n D) : ∃ es clock, w.heap[b]? = some (.map es clock) := by
  obtain ⟨es, clock, hb, _⟩ := h
  exact ⟨es, clock, hb⟩
theorem in_heap {w : World} {b : Nat} {o : Obj} (h : w.heap[b]? = some o) : b < w.heap.size := (Array.getElem?_eq_some_iff.1 h).1
theorem kind_ne {w : World} {a b : Nat} {x y : Obj} (ha : w.heap[a]? = some x) (hb : w.heap[b]? = some y) (h : x ≠ y) : a ≠ b := by
  intro e
  rw [e, hb] at ha
  exact h (Option.some.inj ha).symm
theorem cells_ne {c c' : Array Value} {t t' : TypeId} {f f' : Nat × Nat} (h : t ≠ t') : (Obj.cells c t f) ≠ .cells c' t' f' := fun e => h (by injection e)

section
variable {w w' : World} {p m : Nat} {G : Gs} {D : Dk}
theorem DiskAt.pm (h : DiskAt w p m G D) : p ≠ m := by
  obtain ⟨es, clock, hb⟩ := map_block h.map
  exact kind_ne h.head hb (by intro e; cases e)
theorem DiskAt.pg (h : DiskAt w p m G D) {f : Fi} (hf : f ∈ D.L) : p ≠ (G f.nm).1 := kind_ne h.head (h.file f hf).st (cells_ne (by decide))
theorem DiskAt.pr (h : DiskAt w p m G D) {f : Fi} (hf : f ∈ D.L) {b : Nat} (hb : (G f.nm).2.ownBlock = some b) : p ≠ b := by
  obtain ⟨cur, fr, hc⟩ := row_block (h.file f hf).row hb
  exact kind_ne h.head hc (cells_ne (by decide))
theorem DiskAt.mg (h : DiskAt w p m G D) {f : Fi} (hf : f ∈ D.L) : m ≠ (G f.nm).1 := by
  obtain ⟨es, clock, hb⟩ := map_block h.map
  exact kind_ne hb (h.file f hf).st (by intro e; cases e)
theorem DiskAt.mr (h : DiskAt w p m G D) {f : Fi} (hf : f ∈ D.L) {b : Nat} (hb : (G f.nm).2.ownBlock = some b) : m ≠ b := by
  obtain ⟨cur, fr, hc⟩ := row_block (h.file f hf).row hb
  obtain ⟨es, clock, hm⟩ := map_block h.map
  exact kind_ne hm hc (by intro e; cases e)
theorem DiskAt.gr (h : DiskAt w p m G D) {f : Fi} (hf : f ∈ D.L) {k : Fi} (hk : k ∈ D.L) {b : Nat} (hb : (G k.nm).2.ownBlock = some b) : (G f.nm).1 ≠ b := by
  obtain ⟨cur, fr, hc⟩ := row_block (h.file k hk).row hb
  exact kind_ne (h.file f hf).st hc (cells_ne (by decide))
theorem DiskAt.lt (h : DiskAt w p m G D) {b : Nat} (hb : zone p m G D.L b) : b < w.heap.size := by
  rcases hb with rfl | rfl | ⟨f, hf, rfl | hb⟩
  · exact in_heap h.head
  · exact h.map.lt
  · exact in_heap (h.file f hf).st
  · obtain ⟨cur, fr, hc⟩ := row_block (h.file f hf).row hb
    exact in_heap hc
/-- all its blocks are as they were -/
theorem DiskAt.kept (h : DiskAt w p m G D) (hs : ∀ b, zone p m G D.L b → w'.heap[b]? = w.heap[b]?) : DiskAt w' p m G D :=
  ⟨by rw [hs p (.inl rfl)]; exact h.head, map_same h.map (hs m (.inr (.inl rfl))), fun f hf => (h.file f hf).same (hs _ (.inr (.inr ⟨f, hf, .inl rfl⟩))) fun b hb => hs b (.inr (.inr ⟨f, hf, .inr hb⟩)), h.apart, h.ok⟩
/-- only its own struct has turned -/
theorem DiskAt.turn (h : DiskAt w p m G D) {D' : Dk} (hL : D'.L = D.L) (ok : D'.Ok) (hp : w'.heap[p]? = some (.cells (headV m D') 57 (0, 0))) (hs : ∀ b, b ≠ p → w'.heap[b]? = w.heap[b]?) : DiskAt w' p m G D' := by
  refine ⟨hp, ?_, ?_, ?_, ok⟩
  · rw [hL]
    exact map_same h.map (hs m h.pm.symm)
  · rw [hL]
    exact fun f hf => (h.file f hf).same (hs _ (h.pg hf).symm) fun b hb => hs b (h.pr hf hb).symm
  · rw [hL]
    exact h.apart
end

/-! ### what may turn -/
structure Goes (w w' : World) (Z Z' : Nat → Prop) : Prop where
  os : w'.os = w.os
  tape : w'.tape = w.tape
  output : w'.output = w.output
  size : w.heap.size ≤ w'.heap.size
  block : ∀ b, b < w.heap.size → ¬ Z b → w'.heap[b]? = w.heap[b]?
  sub : ∀ b, Z' b → Z b ∨ w.heap.size ≤ b
theorem Goes.refl (w : World) (Z : Nat → Prop) : Goes w w Z Z := ⟨rfl, rfl, rfl, Nat.le_refl _, fun _ _ _ => rfl, fun _ h => .inl h⟩
theorem Goes.trans {a b c : World} {Z Z' Z'' : Nat → Prop} (h : Goes a b Z Z') (k : Goes b c Z' Z'') : Goes a c Z Z'' := by
  refine ⟨k.os.trans h.os, k.tape.trans h.tape, k.output.trans h.output, Nat.le_trans h.size k.size, fun i hi hz => ?_, fun i hi => ?_⟩
  · refine (k.block i (Nat.lt_of_lt_of_le hi h.size) fun hz' => ?_).trans (h.block i hi hz)
    rcases h.sub i hz' with e | e
    · exact hz e
    · omega
  · rcases k.sub i hi with e | e
    · exact h.sub i e
    · exact .inr (Nat.le_trans h.size e)
theorem Goes.of_below {w w' : World} (h : Below w.heap.size w w') (Z : Nat → Prop) : Goes w w' Z Z := ⟨h.os, h.tape, h.output, h.size, fun b hb _ => h.block b hb, fun _ h => .inl h⟩
theorem Goes.below {w w' : World} {Z Z' : Nat → Prop} (h : Goes w w' Z Z') {N : Nat} {w0 : World} (hb : Below N w0 w) (hN : N ≤ w.heap.size) (hz : ∀ b, Z b → N ≤ b) : Below N w0 w' :=
  hb.trans ⟨h.os, h.tape, h.output, h.size, fun b hb' => h.block b (by omega) fun z => by have := hz b z; omega⟩
theorem Goes.of_set {w w' : World} {Z : Nat → Prop} {a : Addr} {v : Value} (h : w' = w.setCell a v) (hz : Z a.block) : Goes w w' Z Z := by
  subst h
  refine ⟨rfl, rfl, rfl, by simp, fun b hb hn => Below.heap_setCell _ _ _ _ fun e => hn (by rw [e]; exact hz), fun _ h => .inl h⟩
/-- blocks that aren't in the zone, below -/
theorem DiskAt.moved {w w' : World} {p m : Nat} {G : Gs} {D : Dk} {Z Z' : Nat → Prop} (h : DiskAt w p m G D) (g : Goes w w' Z Z') (hz : ∀ b, Z b → ¬ zone p m G D.L b) : DiskAt w' p m G D :=
  h.kept fun b hb => g.block b (h.lt hb) fun z => hz b z hb

section
variable {w w' : World} {p m : Nat} {G : Gs} {D : Dk}
/-- a file is another one of the same name, in the same block -/
theorem DiskAt.setFile (h : DiskAt w p m G D) {f : Fi} (hf : f ∈ D.L) {g : Fi} {v : Value} (hn : g.nm = f.nm) (ok : { D with L := updF f.nm g D.L }.Ok) (hF : FileAt w' g ((G f.nm).1, v))
    (hs : ∀ b, b < w.heap.size → b ≠ (G f.nm).1 → (G f.nm).2.ownBlock ≠ some b → w'.heap[b]? = w.heap[b]?) (hv : ∀ b, v.ownBlock = some b → (G f.nm).2.ownBlock = some b ∨ w.heap.size ≤ b) :
    DiskAt w' p m (setG G f.nm ((G f.nm).1, v)) { D with L := updF f.nm g D.L } := by
  have other : ∀ x ∈ D.L, x.nm ≠ f.nm → setG G f.nm ((G f.nm).1, v) x.nm = G x.nm := fun x hx hne => setG_other _ _ hne
  have first : ∀ n : Bs, (setG G f.nm ((G f.nm).1, v) n).1 = (G n).1 := by
    intro n
    by_cases e : n = f.nm
    · rw [e, setG_same]
    · rw [setG_other _ _ e]
  refine ⟨?_, ?_, ?_, ?_, ok⟩
  · rw [hs p (in_heap h.head) (h.pg hf) fun e => h.pr hf e rfl]
    exact h.head
  · show w'.ownsMap _ _ RF m (updF f.nm g D.L).length (datum _ (updF f.nm g D.L))
    have e : datum (setG G f.nm ((G f.nm).1, v)) (updF f.nm g D.L) = datum G D.L := by
      unfold datum
      rw [ent_upd hn, ent_congr fun x hx => first x.nm]
    rw [e, len_upd]
    exact map_same h.map (hs m h.map.lt (h.mg hf) fun e => h.mr hf e rfl)
  · intro x hx
    rcases mem_upd.1 hx with ⟨rfl, _⟩ | ⟨hx, hne⟩
    · rw [hn, setG_same]
      exact hF
    · rw [other x hx hne]
      obtain ⟨a1, a2⟩ := h.apart x hx f hf hne
      refine (h.file x hx).same (hs _ (in_heap (h.file x hx).st) a1 fun e => h.gr hx hf e rfl) fun b hb => hs b (h.lt (.inr (.inr ⟨x, hx, .inr hb⟩))) (fun e => h.gr hf hx hb e.symm) fun e => a2 b hb e
  · intro x hx y hy hne
    rcases mem_upd.1 hx with ⟨ex, _⟩ | ⟨hx, hxn⟩ <;> rcases mem_upd.1 hy with ⟨ey, _⟩ | ⟨hy, hyn⟩
    · exact absurd (by rw [ex, ey]) hne
    · rw [ex, hn, setG_same, other y hy hyn]
      obtain ⟨a1, a2⟩ := h.apart f hf y hy hyn.symm
      refine ⟨a1, fun b hb e => ?_⟩
      rcases hv b hb with c | c
      · exact a2 b c e
      · have := h.lt (.inr (.inr ⟨y, hy, .inr e⟩)); omega
    · rw [ey, hn, setG_same, other x hx hxn]
      obtain ⟨a1, a2⟩ := h.apart x hx f hf hxn
      refine ⟨a1, fun b hb e => ?_⟩
      rcases hv b e with c | c
      · exact a2 b hb c
      · have := h.lt (.inr (.inr ⟨x, hx, .inr hb⟩)); omega
    · rw [other x hx hxn, other y hy hyn]
      exact h.apart x hx y hy hne
theorem zone_setFile (h : DiskAt w p m G D) {f : Fi} (hf : f ∈ D.L) {g : Fi} {v : Value} (hn : g.nm = f.nm) (hv : ∀ b, v.ownBlock = some b → (G f.nm).2.ownBlock = some b ∨ w.heap.size ≤ b) :
    ∀ b, zone p m (setG G f.nm ((G f.nm).1, v)) (updF f.nm g D.L) b → zone p m G D.L b ∨ w.heap.size ≤ b := by
  rintro b (rfl | rfl | ⟨x, hx, hb⟩)
  · exact .inl (.inl rfl)
  · exact .inl (.inr (.inl rfl))
  · rcases mem_upd.1 hx with ⟨rfl, _⟩ | ⟨hx, hne⟩
    · rw [hn, setG_same] at hb
      rcases hb with hb | hb
      · exact .inl (.inr (.inr ⟨f, hf, .inl hb⟩))
      · rcases hv b hb with c | c
        · exact .inl (.inr (.inr ⟨f, hf, .inr c⟩))
        · exact .inr c
    · rw [setG_other _ _ hne] at hb
      exact .inl (.inr (.inr ⟨x, hx, hb⟩))
/-- a name is taken out of the map -/
theorem DiskAt.del (h : DiskAt w p m G D) (k : Bs) {n : Nat} (hm : w'.ownsMap Try.prog 9 RF m n ((datum G D.L).del (.string k))) (hs : ∀ b, b < w.heap.size → b ≠ m → w'.heap[b]? = w.heap[b]?) : DiskAt w' p m G { D with L := delF k D.L } := by
  refine ⟨?_, ?_, ?_, ?_, h.ok.del k⟩
  · rw [hs p (in_heap h.head) h.pm]
    exact h.head
  · rw [datum_del] at hm
    have := tight hm
    rw [List.length_map] at this
    exact this
  · intro x hx
    obtain ⟨hx, _⟩ := mem_del.1 hx
    exact (h.file x hx).same (hs _ (in_heap (h.file x hx).st) (h.mg hx).symm) fun b hb => hs b (h.lt (.inr (.inr ⟨x, hx, .inr hb⟩))) (h.mr hx hb).symm
  · intro x hx y hy hne
    exact h.apart x (mem_del.1 hx).1 y (mem_del.1 hy).1 hne
theorem zone_del (k : Bs) : ∀ b, zone p m G (delF k D.L) b → zone p m G D.L b := by
  rintro b (rfl | rfl | ⟨x, hx, hb⟩)
  · exact .inl rfl
  · exact .inr (.inl rfl)
  · exact .inr (.inr ⟨x, (mem_del.1 hx).1, hb⟩)
/-- a file is put under a name; its blocks are no other file's -/
theorem DiskAt.put (h : DiskAt w p m G D) {f : Fi} {g : Nat} {v : Value} {n : Nat} (hm : w'.ownsMap Try.prog 9 RF m n ((datum G D.L).put (.string f.nm) (.lit (.int .i64 (g : Int))))) (ok : { D with L := insF f (delF f.nm D.L) }.Ok) (hF : FileAt w' f (g, v))
    (hs : ∀ b, zone p m G (delF f.nm D.L) b → b ≠ m → w'.heap[b]? = w.heap[b]?) (hg : ∀ x ∈ delF f.nm D.L, g ≠ (G x.nm).1) (hv : ∀ b, v.ownBlock = some b → ∀ x ∈ delF f.nm D.L, (G x.nm).2.ownBlock ≠ some b) :
    DiskAt w' p m (setG G f.nm (g, v)) { D with L := insF f (delF f.nm D.L) } := by
  have other : ∀ x ∈ delF f.nm D.L, setG G f.nm (g, v) x.nm = G x.nm := fun x hx => setG_other _ _ (mem_del.1 hx).2
  refine ⟨?_, ?_, ?_, ?_, ok⟩
  · rw [hs p (.inl rfl) h.pm]
    exact h.head
  · have e : datum (setG G f.nm (g, v)) (insF f (delF f.nm D.L)) = (datum G D.L).put (.string f.nm) (.lit (.int .i64 (g : Int))) := by
      unfold datum
      rw [DataW.put_eq, ent_ins, ent_congr fun x hx => by rw [other x hx], ent_del, ent, setG_same]
      rfl
    rw [← e] at hm
    have := tight hm
    rw [List.length_map] at this
    exact this
  · intro x hx
    rcases mem_ins.1 hx with rfl | hx
    · rw [setG_same]
      exact hF
    · rw [other x hx]
      have hx' := (mem_del.1 hx).1
      exact (h.file x hx').same (hs _ (.inr (.inr ⟨x, hx, .inl rfl⟩)) (h.mg hx').symm) fun b hb => hs b (.inr (.inr ⟨x, hx, .inr hb⟩)) (h.mr hx' hb).symm
  · intro x hx y hy hne
    rcases mem_ins.1 hx with rfl | hx <;> rcases mem_ins.1 hy with rfl | hy
    · exact absurd rfl hne
    · rw [setG_same, other y hy]
      exact ⟨hg y hy, fun b hb => hv b hb y hy⟩
    · rw [setG_same, other x hx]
      exact ⟨(hg x hx).symm, fun b hb e => hv b e x hx hb⟩
    · rw [other x hx, other y hy]
      exact h.apart x (mem_del.1 hx).1 y (mem_del.1 hy).1 hne
theorem zone_put {f : Fi} {x : Nat × Value} : ∀ b, zone p m (setG G f.nm x) (insF f (delF f.nm D.L)) b → zone p m G D.L b ∨ b = x.1 ∨ x.2.ownBlock = some b := by
  rintro b (rfl | rfl | ⟨y, hy, hb⟩)
  · exact .inl (.inl rfl)
  · exact .inl (.inr (.inl rfl))
  · rcases mem_ins.1 hy with rfl | hy
    · rw [setG_same] at hb
      exact .inr hb
    · obtain ⟨hy, hne⟩ := mem_del.1 hy
      rw [setG_other _ _ hne] at hb
      exact .inl (.inr (.inr ⟨y, hy, hb⟩))
end
end Go.Proofs.Ytdmgobffhpgjlaa.Pk
end

section
namespace Go.Proofs.Ytdmgobffhpgjlaa.Pk
open Go.RowKit Go.PlainAid Go.Maps
set_option linter.unusedVariables false
set_option maxRecDepth 20000
set_option linter.unusedSimpArgs false

theorem kname : Keyed Try.prog 9 := string_keyed Try.underlying9
def kl (s : ByteArray) : Bs := s.data.toList
theorem kl_len (s : ByteArray) : (kl s).length = s.size := by simp [kl]
theorem keyN {s : ByteArray} (h : s.size ≤ 9223372036854775807) : keyOf Try.prog 9 (.string s) = some (.string (kl s)) := WideMaps.keyOf_string_mk Try.underlying9 (by unfold maxLen; exact h)

set_option maxHeartbeats 1000000 in
theorem new_any (room : Int) (w : World) :
    Calls Try.prog 7 #[.int .i64 room] w fun e w' => e = .returned (.pointer (some ⟨w.heap.size + 1, 0, none⟩)) ∧ w' = (w.alloc (.map #[] 0)).alloc (.cells (headV w.heap.size (Dk.new room)) 57) := by
  have hmm := @run_makeMap Try.prog
  go_enter Try.func7, Try.ntmps7
  go_wp2
  all_goals go_ret
  all_goals refine ⟨rfl, ?_⟩
  · rw [headV, Dk.new, show min (max room 0) 4194304 = 0 by omega]
  · rw [headV, Dk.new, show min (max room 0) 4194304 = 4194304 by omega]
  · rw [headV, Dk.new, show min (max room 0) 4194304 = room by omega]

structure StrsAt (w : World) (v : Value) (ss : List ByteArray) : Prop where
  is : ∃ base cap, v = .slice base ss.length cap ∧ ∀ j s, ss[j]? = some s → ∃ a : Addr, base = some a ∧ a.block < w.heap.size ∧ w.cell? (a.add j) = some (.string s)

theorem isName_empty {s : ByteArray} (h : s.toList = []) : isName (kl s) = false := by
  rw [ByteArray.toList_eq] at h
  simp [isName, kl, h]
theorem isName_long {s : ByteArray} (h : 80 < (s.size : Int)) : isName (kl s) = false := by
  have := kl_len s
  simp [isName]
  omega
theorem isName_good {s : ByteArray} (h : ¬ s.toList = []) (h' : (s.size : Int) ≤ 80) : isName (kl s) = true := by
  have e := kl_len s
  rw [ByteArray.toList_eq] at h
  simp [isName]
  refine ⟨?_, by omega⟩
  rcases hc : kl s with _ | ⟨c, l⟩
  · exact absurd hc h
  · simp
theorem all_false {ss : List ByteArray} {k : Nat} {s : ByteArray} (hs : ss[k]? = some s) (h : isName (kl s) = false) : (ss.all fun s => isName (kl s)) = false := by
  rw [List.all_eq_false]
  exact ⟨s, List.mem_of_getElem? hs, by simp [h]⟩
set_option maxHeartbeats 1000000 in
theorem names_any {w : World} {v : Value} {ss : List ByteArray} (hv : StrsAt w v ss) (hl : ss.length ≤ 1000) (hz : ∀ s ∈ ss, s.size ≤ 9223372036854775807) :
    Calls Try.prog 49 #[v] w fun e w' => e = .returned (.bool (ss.all fun s => isName (kl s))) ∧ w = w' := by
  obtain ⟨base, cap, rfl, hc⟩ := hv.is
  clear hv
  have HC := Lib.hid hc
  have HZ := Lib.hid hz
  clear hc hz
  go_enter Try.func49, Try.ntmps49
  go_wp2
  go_loopw [7] (fun i wr => ∃ k : Nat, k ≤ ss.length ∧ i = .int .i64 k ∧ (∀ s ∈ ss.take k, isName (kl s) = true) ∧ w = wr) (fun i _ => ss.length - (intOf i).toNat)
  case atStart => exact ⟨0, Nat.zero_le _, rfl, by simp, rfl⟩
  case round =>
    obtain ⟨k, hk, rfl, hall, rfl⟩ := hrel
    by_cases hlt : k < ss.length
    · obtain ⟨s, hs⟩ : ∃ s, ss[k]? = some s := ⟨ss[k], List.getElem?_eq_getElem hlt⟩
      obtain ⟨a, rfl, ha, hcell⟩ := HC.out k s hs
      have hx := HZ.out s (List.mem_of_getElem? hs)
      have l1 : (k : Int) < (ss.length : Int) := by omega
      go_wp2
      · go_ret
        exact ⟨by rw [all_false hs (isName_empty (by assumption))]; rfl, rfl⟩
      · rename_i c1 c2
        go_ret
        have c3 : 80 < (s.size : Int) := by
          rcases c2 with c | c
          · exact absurd (List.isEmpty_iff.1 c) c1
          · exact c
        exact ⟨by rw [all_false hs (isName_long c3)]; rfl, rfl⟩
      · rename_i c1 c2
        have c3 : (s.size : Int) ≤ 80 := by
          simp at c2
          omega
        go_roundw
        case rel =>
          refine ⟨k + 1, by omega, by go_num, ?_, trivial⟩
          intro x hy
          rw [List.take_add_one, hs] at hy
          rcases List.mem_append.1 hy with hz | hz
          · exact hall x hz
          · simp at hz
            subst hz
            exact isName_good c1 c3
        case measure => simp [intOf]; omega
    · have e : ss.take k = ss := List.take_of_length_le (by omega)
      have l1 : ¬ (k : Int) < (ss.length : Int) := by omega
      rw [e] at hall
      go_wp2
      go_ret
      refine ⟨?_, rfl⟩
      rw [List.all_eq_true.2 hall]
      rfl
theorem one_strs {w : World} {B : Nat} {s : ByteArray} {T : Nat} {fr : Nat × Nat} (h : w.heap[B]? = some (.cells #[.string s] T fr)) : StrsAt w (.slice (some ⟨B, 0, none⟩) 1 1) [s] := by
  refine ⟨some ⟨B, 0, none⟩, 1, rfl, ?_⟩
  intro j t ht
  refine ⟨_, rfl, in_heap h, ?_⟩
  rw [show (⟨B, 0, none⟩ : Addr).add j = ⟨B, j, none⟩ by unfold Addr.add; split <;> simp_all, cell_of_row _ _ _ _ _ _ h]
  rcases j with _ | j
  · simp at ht; subst ht; rfl
  · simp at ht
theorem two_strs {w : World} {B : Nat} {s t : ByteArray} {T : Nat} {fr : Nat × Nat} (h : w.heap[B]? = some (.cells #[.string s, .string t] T fr)) : StrsAt w (.slice (some ⟨B, 0, none⟩) 2 2) [s, t] := by
  refine ⟨some ⟨B, 0, none⟩, 2, rfl, ?_⟩
  intro j u ht
  refine ⟨_, rfl, in_heap h, ?_⟩
  rw [show (⟨B, 0, none⟩ : Addr).add j = ⟨B, j, none⟩ by unfold Addr.add; split <;> simp_all, cell_of_row _ _ _ _ _ _ h]
  rcases j with _ | _ | j
  · simp at ht; subst ht; rfl
  · simp at ht; subst ht; rfl
  · simp at ht
theorem name_one (w : World) {s : ByteArray} (hs : s.size ≤ 9223372036854775807) :
    Calls Try.prog 49 #[.slice (some ⟨w.heap.size, 0, none⟩) 1 1] (w.alloc (.cells #[.string s] 9)) fun e w' => e = .returned (.bool (isName (kl s))) ∧ w.alloc (.cells #[.string s] 9) = w' := by
  have := names_any (one_strs (heap_alloc_new w (.cells #[.string s] 9))) (by simp) (by simpa using hs)
  simpa using this
theorem name_two (w : World) {s t : ByteArray} (hs : s.size ≤ 9223372036854775807) (ht : t.size ≤ 9223372036854775807) :
    Calls Try.prog 49 #[.slice (some ⟨w.heap.size, 0, none⟩) 2 2] (w.alloc (.cells #[.string s, .string t] 9)) fun e w' => e = .returned (.bool (isName (kl s) && isName (kl t))) ∧ w.alloc (.cells #[.string s, .string t] 9) = w' := by
  have := names_any (two_strs (heap_alloc_new w (.cells #[.string s, .string t] 9))) (by simp) (by simpa using ⟨hs, ht⟩)
  simpa using this

/-! ### cells of the disk's struct -/
section
variable {w : World} {p m : Nat} {G : Gs} {D : Dk}
theorem DiskAt.cell (h : DiskAt w p m G D) (j : Nat) : w.cell? ⟨p, j, none⟩ = (headV m D)[j]? := cell_of_row _ _ _ _ _ _ h.head
theorem DiskAt.frozen (h : DiskAt w p m G D) (j : Nat) : w.frozen? ⟨p, j, none⟩ = false := frozen_of_row _ _ _ _ _ h.head
theorem heap_set (w : World) (B j : Nat) (v : Value) (cs : Array Value) (t : TypeId) (fr : Nat × Nat) (h : w.heap[B]? = some (.cells cs t fr)) :
    (w.setCell ⟨B, j, none⟩ v).heap[B]? = some (.cells (cs.setIfInBounds j v) t fr) := by
  simp [World.setCell, Array.getElem?_modify, h]
theorem DiskAt.set (h : DiskAt w p m G D) {D' : Dk} (hL : D'.L = D.L) (ok : D'.Ok) (j : Nat) (v : Value) (e : (headV m D).setIfInBounds j v = headV m D') : DiskAt (w.setCell ⟨p, j, none⟩ v) p m G D' ∧ Goes w (w.setCell ⟨p, j, none⟩ v) (zone p m G D.L) (zone p m G D'.L) := by
  refine ⟨h.turn hL ok ?_ fun b hb => Below.heap_setCell _ _ _ _ hb, ?_⟩
  · rw [heap_set _ _ _ _ _ _ _ h.head, e]
  · rw [hL]
    exact Goes.of_set rfl (.inl rfl)
end
end Go.Proofs.Ytdmgobffhpgjlaa.Pk
end

section
namespace Go.Proofs.Ytdmgobffhpgjlaa.Pk
open Go.RowKit Go.PlainAid Go.Maps
set_option linter.unusedVariables false
set_option maxRecDepth 20000
set_option linter.unusedSimpArgs false

theorem add_addr (B o j : Nat) : (⟨B, o, none⟩ : Addr).add j = ⟨B, o + j, none⟩ := by unfold Addr.add; split <;> simp_all
theorem size_of {P : Program} {t : TypeId} {n : Nat} (h : (P.info? t).map (·.size) = some n) (w : World) : (sizeOf t).run P w = .ok n w := by
  cases hq : P.info? t with
  | none => simp [hq] at h
  | some i => simp [hq] at h; simp [sizeOf, typeInfo, hq, h]

/-- part of a block, read whole -/
theorem load_part {P : Program} {w : World} {B : Nat} {cs : Array Value} {T : Nat} {fr : Nat × Nat} (hg : w.heap[B]? = some (.cells cs T fr)) (o n : Nat) (ho : o + n ≤ cs.size) :
    (loadCellsFrom ⟨B, o, none⟩ 0 n #[]).run P w = .ok (cs.extract o (o + n)) w := by
  have := run_loadCells_list (P := P) w ⟨B, o, none⟩ (cs.extract o (o + n)).toList (fun j v hv => by
    rw [add_addr, cell_of_row _ _ _ _ _ _ hg]
    have hj : j < n := by
      have := List.getElem?_eq_some_iff.1 hv
      obtain ⟨h, _⟩ := this
      simp at h; omega
    simpa [Array.getElem?_extract, hj, show o + j < o + n by omega] using hv)
  have hs : (cs.extract o (o + n)).toList.length = n := by simp; omega
  rw [hs, Array.toArray_toList] at this
  exact this

/-! ### whole arrays and structs, out of memory and into it -/
def aggOf (P : Program) (t : TypeId) : Bool := match P.underlying t with | some (.struct _) => true | some (.array _ _) => true | _ => false
theorem run_isAgg {P : Program} {t : TypeId} (h : aggOf P t = true) (w : World) : (isAgg t).run P w = .ok true w := by
  unfold aggOf at h
  split at h <;> first | (rename_i hu; unfold isAgg; rw [Sem.run_bind, run_underlying hu w]; simp) | cases h
def Loads (P : Program) (w : World) (ty : TypeId) (B off : Nat) (cs : Array Value) : Prop := (loadVar ty ⟨B, off, none⟩).run P w = .ok (.agg cs) w
def Stores (P : Program) (w : World) (ty : TypeId) (B off : Nat) (cs : Array Value) (w' : World) : Prop := (storeVar ty ⟨B, off, none⟩ (.agg cs)).run P w = .ok () w'
section
variable {P : Program} {ops : Array Oper} {rest : List Oper} {o : Oper} {a : Act} {w w' : World} {Q : Exit → Act → World → Prop} {ty : TypeId} {x y : Operand} {B off : Nat} {cs : Array Value}
theorem wpl_load (hl : Loads P w ty B off cs) (hgd : o.guard = none) (hop : o.op = .load ty x) (hx : a.eval x = .pointer (some ⟨B, off, none⟩)) (h : wpList P ops Q rest (a.put o.dst (.agg cs)) w) : wpList P ops Q (o :: rest) a w :=
  wpList_plain hgd fun _ hK => by
    unfold Oper.wp execOp
    simp only [hop, hx, Instr.loadAt, Instr.sureAddr, Sem.run_bind, Sem.run_pure, Result.andThen_ok, show (loadVar ty ⟨B, off, none⟩).run P w = .ok (.agg cs) w from hl]
    exact hK _ _ h
theorem wpl_store (hl : Stores P w ty B off cs w') (hgd : o.guard = none) (hop : o.op = .store ty x y) (hd : o.dst = none) (hx : a.eval x = .pointer (some ⟨B, off, none⟩)) (hy : a.eval y = .agg cs) (h : wpList P ops Q rest a w') : wpList P ops Q (o :: rest) a w :=
  wpList_plain hgd fun _ hK => by
    unfold Oper.wp execOp
    simp only [hop, hx, hy, Instr.storeAt, Instr.sureAddr, Sem.run_bind, Sem.run_pure, Result.andThen_ok, show (storeVar ty ⟨B, off, none⟩ (.agg cs)).run P w = .ok () w' from hl]
    refine hK _ _ ?_
    rw [hd]
    exact h
theorem wps_load {Q : Act → Prop} (hl : Loads P w ty B off cs) (hgd : o.guard = none) (hop : o.op = .load ty x) (hx : a.eval x = .pointer (some ⟨B, off, none⟩)) (h : wpStill P ops w Q rest (a.put o.dst (.agg cs))) : wpStill P ops w Q (o :: rest) a := by
  refine wpStill_step fun K hK => ?_
  rw [if_pos (by simp [Region.wanted, hgd])]
  unfold Oper.still execOp
  simp only [hop, hx, Instr.loadAt, Instr.sureAddr, Sem.run_bind, Sem.run_pure, Result.andThen_ok, show (loadVar ty ⟨B, off, none⟩).run P w = .ok (.agg cs) w from hl]
  exact ⟨rfl, hK _ h⟩
theorem loads_part {cur : Array Value} {T n : Nat} {fr : Nat × Nat} (hg : w.heap[B]? = some (.cells cur T fr)) (ha : aggOf P ty = true) (hi : (P.info? ty).map (·.size) = some n) (ho : off + n ≤ cur.size) : Loads P w ty B off (cur.extract off (off + n)) := by
  unfold Loads loadVar
  have hl := load_part (P := P) hg off n ho
  have hz := size_of hi w
  simp only [Sem.run_bind, run_isAgg ha w, Result.andThen_ok, if_true, hz, loadCells, hl]
  rfl
theorem stores_part {cur : Array Value} {T : Nat} (hg : w.heap[B]? = some (.cells cur T (0, 0))) (hi : (P.info? ty).map (·.size) = some cs.size) (ho : off + cs.size ≤ cur.size) (h1 : ∀ v ∈ cs.toList, v.oneCell' = true) :
    Stores P w ty B off cs (w.setRow B (cur.toList.take off ++ cs.toList ++ cur.toList.drop (off + cs.size)).toArray) := by
  unfold Stores storeVar
  have hz := size_of hi w
  have hs := run_storeCells_at (P := P) B off T cs.toList 0 cur w hg (by simpa using ho) h1
  simp only [Nat.add_zero, Array.length_toList] at hs
  simp only [Sem.run_bind, hz, Result.andThen_ok, Value.cells, ne_eq, not_true_eq_false, if_false, hs]
theorem heap_setRow_other {C : Nat} (hc : C ≠ B) : (w.setRow B cs).heap[C]? = w.heap[C]? := by
  simp only [World.setRow, Array.getElem?_modify]
  rw [if_neg (by omega)]
end
section
variable {P : Program} {md : Region.Mode} {ops : Array Oper} {Q : Exit → Act → World → Prop} {S : World → Prop} {i fuel : Nat} {listed : Array Bool} {a : Act} {w : World} {oi : Oper}
theorem held_take (i : Nat) (v : Value) (hi : ops[i]? = some oi) (hs : Region.noSelect ops = true) (hf : Region.free md ops listed i = true) (hr : (Region.ready md ops listed).contains i = true)
    (hQ : ∀ c a w, Q (.panic c) (a.put oi.dst v) w → Q (.panic c) a w) (hy : YieldsIf P ops S oi v a) (hS : S w)
    (h : ∀ K : Act → World → Prop, (∀ a w, wpAnyH P md ops Q S fuel (listed.setIfInBounds i true) a w → K a w) → K (a.put oi.dst v) w) : wpAnyH P md ops Q S (fuel + 1) listed a w :=
  wpAnyH_take hi hs hf hr hQ hy hS (h _ fun _ _ h => h)
theorem held_one (i : Nat) (hr : Region.ready md ops listed = [i])
    (h1 : ∀ K : Act → World → Prop, (∀ a w, S w → wpAnyH P md ops Q S fuel (listed.setIfInBounds i true) a w → K a w) → wpOp P ops Q i K a w) : wpAnyH P md ops Q S (fuel + 1) listed a w :=
  wpAnyH_all hr (by simp) (by intro k hk; simp at hk; subst hk; exact h1 _ fun _ _ hs h => ⟨hs, h⟩)
theorem wpOp_in {K : Act → World → Prop} (hi : ops[i]? = some oi) (hw : Region.wanted oi (yielded ops a.tmps) = true) (h : oi.wp P a w K Q) : wpOp P ops Q i K a w := by
  unfold wpOp
  simp only [hi]
  rw [if_pos hw]
  exact Or.inl h
end
end Go.Proofs.Ytdmgobffhpgjlaa.Pk
end

section
namespace Go.Proofs.Ytdmgobffhpgjlaa.Pk
open Go.RowKit Go.PlainAid Go.Maps
set_option linter.unusedVariables false
set_option maxRecDepth 20000
set_option linter.unusedSimpArgs false

section
variable {w : World} {p m : Nat} {G : Gs} {D : Dk}
theorem DiskAt.store (h : DiskAt w p m G D) (k a b : Int) {D' : Dk} (hL : D'.L = D.L) (ok : D'.Ok) (e : headV m D' = #[.int .i64 D.room, .map (some m), .int .i64 D.ops, .bool D.off, .int .i64 k, .int .i64 a, .int .i64 b]) :
    ∃ X, Stores Try.prog w 55 p 4 #[.int .i64 k, .int .i64 a, .int .i64 b] X ∧ DiskAt X p m G D' ∧ Goes w X (zone p m G D.L) (zone p m G D'.L) := by
  have s := stores_part (P := Try.prog) (ty := 55) (off := 4) (cs := #[.int .i64 k, .int .i64 a, .int .i64 b]) h.head (by kernel_rfl) (by simp [headV]) (by simp [Value.oneCell'])
  refine ⟨_, s, h.turn hL ok ?_ fun b hb => heap_setRow_other hb, ?_⟩
  · rw [setRow_heap w p _ _ _ _ h.head, e]
    rfl
  · rw [hL]
    exact ⟨rfl, rfl, rfl, by simp, fun b hb hn => heap_setRow_other fun e => hn (.inl e), fun _ h => .inl h⟩
theorem DiskAt.drewN (h : DiskAt w p m G D) (n : Nat) : DiskAt (w.drewN n) p m G D := h.kept fun _ _ => rfl
theorem Goes.drewN (w : World) (n : Nat) (Z : Nat → Prop) : Goes w (w.drewN n) Z Z := ⟨rfl, rfl, rfl, Nat.le_refl _, fun _ _ _ => rfl, fun _ h => .inl h⟩
set_option maxRecDepth 100000 in
set_option maxHeartbeats 1000000 in
theorem off_any (h : DiskAt w p m G D) :
    Calls Try.prog 14 #[.pointer (some ⟨p, 0, none⟩)] w fun e w' => e = .returned (.tuple #[]) ∧ DiskAt w' p m G D.offd ∧ Goes w w' (zone p m G D.L) (zone p m G D.L) := by
  have ok1 : { D with off := true }.Ok := ⟨h.ok.room0, h.ok.room1, h.ok.ops0, h.ok.kd, h.ok.fa0, h.ok.fa1, h.ok.fm0, h.ok.fm1, h.ok.up, h.ok.names, h.ok.safe, h.ok.used, h.ok.cnt⟩
  have c3 := h.cell 3
  have f3 := h.frozen 3
  obtain ⟨h1, g1⟩ := h.set (D' := { D with off := true }) rfl ok1 3 (.bool true) rfl
  obtain ⟨X, S, h2, g2⟩ := h1.store 0 0 0 (D' := D.offd) rfl h.ok.offd rfl
  have g3 := g1.trans g2
  simp [headV] at c3
  have H2 := Lib.hid h2
  have G3 := Lib.hid g3
  clear h h1 g1 h2 g2 g3 ok1
  go_enter Try.func14, Try.ntmps14
  go_wp2_with (first | refine wpl_store S rfl rfl rfl rfl rfl ?_)
  exact bodyPost_end (v := .tuple #[]) (by simp [results, Try.results14, go_sem]) rfl ⟨rfl, H2.out, G3.out⟩
set_option maxRecDepth 100000 in
set_option maxHeartbeats 1000000 in
theorem fail_any (h : DiskAt w p m G D) (ho : D.ops ≤ 2199023255552) :
    Calls Try.prog 71 #[.pointer (some ⟨p, 0, none⟩)] w fun e w' => e = .returned (.int .i64 D.fail.1) ∧ DiskAt w' p m G D.fail.2 ∧ Goes w w' (zone p m G D.L) (zone p m G D.L) := by
  have c2 := h.cell 2
  have c4 := h.cell 4
  have c5 := h.cell 5
  have c6 := h.cell 6
  simp [headV] at c2 c4 c5 c6
  obtain ⟨a0, a1, a2, a3, a4, a5⟩ : 0 ≤ D.ops ∧ (D.kd = 0 ∨ D.kd = 1 ∨ D.kd = 2) ∧ 0 ≤ D.fa ∧ D.fa ≤ 2199023255552 ∧ 0 ≤ D.fm ∧ D.fm ≤ 9223372036854775807 := ⟨h.ok.ops0, h.ok.kd, h.ok.fa0, h.ok.fa1, h.ok.fm0, h.ok.fm1⟩
  have E0 : D.kd = 0 ∨ D.ops - D.fa < 0 ∨ D.fm < D.ops - D.fa → D.fail = (0, D) := fun c => by unfold Dk.fail; rw [if_pos c]
  have E1 : ¬ (D.kd = 0 ∨ D.ops - D.fa < 0 ∨ D.fm < D.ops - D.fa) → D.kd = 1 → D.fail = (11, D) := fun c d => by unfold Dk.fail; rw [if_neg c, if_pos d]
  have E2 : ¬ (D.kd = 0 ∨ D.ops - D.fa < 0 ∨ D.fm < D.ops - D.fa) → D.kd ≠ 1 → D.fail = (12, D.offd) := fun c d => by unfold Dk.fail; rw [if_neg c, if_neg d]
  have F0 := Lib.hid E0
  have F1 := Lib.hid E1
  have F2 := Lib.hid E2
  clear E0 E1 E2
  have HO := Lib.hid fun w' (h' : DiskAt w' p m G D) => off_any h'
  have HD := Lib.hid fun n => h.drewN n
  have C : ∀ w', DiskAt w' p m G D → w'.cell? ⟨p, 4, none⟩ = some (.int .i64 D.kd) ∧ w'.cell? ⟨p, 6, none⟩ = some (.int .i64 D.fm) := by
    intro w' h'
    have c4 := h'.cell 4
    have c6 := h'.cell 6
    simp [headV] at c4 c6
    exact ⟨c4, c6⟩
  have C' := Lib.hid C
  clear h C
  generalize D.ops = ops at *
  generalize D.kd = kd at *
  generalize D.fa = fa at *
  generalize D.fm = fm at *
  go_enter Try.func71, Try.ntmps71
  go_upto_region 1 with (fail)
  go_quiet (fail)
  have h1 := HD.out nq
  have g1 := Lib.hid (Goes.drewN w nq (zone p m G D.L))
  generalize w.drewN nq = w1 at *
  clear HD c2 c4 c5 c6
  obtain ⟨c4, c6⟩ := C'.out w1 h1
  have h2 := Lib.hid h1
  clear h1 C'
  by_cases k0 : kd = 0
  · subst k0
    go_wp2
    go_ret
    rw [F0.out (.inl trivial)]
    exact ⟨rfl, h2.out, g1.out⟩
  by_cases b1 : ops - fa < 0
  · go_wp2
    go_ret
    rw [F0.out (by omega)]
    exact ⟨rfl, h2.out, g1.out⟩
  by_cases b2 : fm < ops - fa
  · go_wp2
    go_ret
    rw [F0.out (by omega)]
    exact ⟨rfl, h2.out, g1.out⟩
  by_cases k1 : kd = 1
  · subst k1
    go_wp2
    go_ret
    rw [F1.out (by omega) trivial]
    exact ⟨rfl, h2.out, g1.out⟩
  · go_wp2_with fail
    refine (HO.out w1 h2.out).mono ?_
    rintro e w' ⟨rfl, h3, g3⟩
    have H3 := Lib.hid h3
    have G3 := Lib.hid (g1.out.trans g3)
    clear h3 g3
    go_wp2
    go_ret
    rw [F2.out (by omega) (by omega)]
    exact ⟨rfl, H3.out, G3.out⟩
set_option maxRecDepth 100000 in
set_option maxHeartbeats 1000000 in
theorem begin_any (h : DiskAt w p m G D) (ho : D.ops ≤ 1099511627776) (good : Bool) :
    Calls Try.prog 56 #[.pointer (some ⟨p, 0, none⟩), .bool good] w fun e w' => e = .returned (.int .i64 (D.beg good).1) ∧ DiskAt w' p m G (D.beg good).2 ∧ Goes w w' (zone p m G D.L) (zone p m G D.L) := by
  have c2 := h.cell 2
  have c3 := h.cell 3
  have f2 := h.frozen 2
  simp [headV] at c2 c3
  have a0 := h.ok.ops0
  have w1 : IntKind.i64.wrap (D.ops + 1) = D.ops + 1 := IntWalk.i64_in _ (by omega)
  obtain ⟨h1, g1⟩ := h.set (D' := { D with ops := D.ops + 1 }) rfl h.ok.count 2 (.int .i64 (D.ops + 1)) rfl
  have FA := fail_any h1 (by simp; omega)
  have G1 := Lib.hid g1
  have H := Lib.hid h
  clear h h1 g1
  unfold Dk.beg
  cases good with
  | false =>
    go_enter Try.func56, Try.ntmps56
    go_wp2
    go_ret
    exact ⟨rfl, H.out, Goes.refl _ _⟩
  | true =>
    simp only [Bool.true_eq_false, if_false]
    by_cases hoff : D.off = true
    · rw [if_pos hoff]
      rw [hoff] at c3
      go_enter Try.func56, Try.ntmps56
      go_wp2
      go_ret
      exact ⟨rfl, H.out, Goes.refl _ _⟩
    · rw [if_neg hoff]
      rw [show D.off = false by simpa using hoff] at c3
      generalize ({ D with ops := D.ops + 1 } : Dk).fail = r at *
      go_enter Try.func56, Try.ntmps56
      go_wp2_with fail
      refine FA.mono ?_
      rintro e w' ⟨rfl, h3, g3⟩
      have H3 := Lib.hid h3
      have G3 := Lib.hid (G1.out.trans g3)
      clear h3 g3
      go_wp2
      go_ret
      exact ⟨rfl, H3.out, G3.out⟩
end
end Go.Proofs.Ytdmgobffhpgjlaa.Pk
end

section
namespace Go.Proofs.Ytdmgobffhpgjlaa.Pk
open Go.RowKit Go.PlainAid Go.Maps
set_option linter.unusedVariables false
set_option maxRecDepth 20000
set_option linter.unusedSimpArgs false

def fp (G : Gs) (o : Option Fi) : Value := .pointer (o.map fun f => ⟨(G f.nm).1, 0, none⟩)
theorem zfile : ∀ w, (zeroValue 72).run Try.prog w = .ok (.pointer none) w := fun w => by kernel_rfl
section
variable {w : World} {p m : Nat} {G : Gs} {D : Dk}
theorem DiskAt.alloc (h : DiskAt w p m G D) (o : Obj) : DiskAt (w.alloc o) p m G D := h.kept fun b hb => Below.heap_alloc _ _ _ (h.lt hb)
theorem Goes.alloc (w : World) (o : Obj) (Z : Nat → Prop) : Goes w (w.alloc o) Z Z := ⟨rfl, rfl, rfl, by simp, fun b hb _ => Below.heap_alloc _ _ _ hb, fun _ h => .inl h⟩
theorem DiskAt.look (h : DiskAt w p m G D) {s : ByteArray} (hs : s.size ≤ 9223372036854775807) : (Instr.lookup 53 (.map (some m)) (.string s) false).run Try.prog w = .ok (fp G (getF (kl s) D.L)) w := by
  obtain ⟨v, ps, hr, hv⟩ := h.map.lookup kname Try.underlying53 (zfile w) (show RF (.pointer none) = some (.nil, []) from rfl) (keyN hs)
  rw [hr]
  rw [datum_at] at hv
  cases hg : getF (kl s) D.L with
  | none =>
    rw [hg] at hv
    rw [RF_nil hv]
    rfl
  | some f =>
    rw [hg] at hv
    rw [RF_inv hv]
    rfl
theorem DiskAt.hand (h : DiskAt w p m G D) : w.cell? ⟨p, 1, none⟩ = some (.map (some m)) := by
  have := h.cell 1
  simpa [headV] using this
set_option maxRecDepth 100000 in
set_option maxHeartbeats 1000000 in
theorem find_any (h : DiskAt w p m G D) {s : ByteArray} (hs : s.size ≤ 9223372036854775807) :
    Calls Try.prog 34 #[.pointer (some ⟨p, 0, none⟩), .string s] w fun e w' => e = .returned (fp G (getF (kl s) D.L)) ∧ w = w' := by
  have L := h.look hs
  have c1 := h.hand
  clear h
  generalize fp G (getF (kl s) D.L) = v at *
  go_enter Try.func34, Try.ntmps34
  go_wp2
  go_ret
  exact ⟨rfl, rfl⟩
theorem find_nil (s : ByteArray) (w : World) : Calls Try.prog 34 #[.pointer none, .string s] w fun e w' => e = .returned (.pointer none) ∧ w = w' := by
  go_enter Try.func34, Try.ntmps34
  go_wp2
  go_ret
  exact ⟨rfl, rfl⟩
theorem beg_zone (G : Gs) (D : Dk) (g : Bool) : zone p m G (D.beg g).2.L = zone p m G D.L := by rw [(beg_L D g).1]
set_option maxRecDepth 100000 in
set_option maxHeartbeats 1000000 in
theorem reach_no (h : DiskAt w p m G D) (ho : D.ops ≤ 1099511627776) {s : ByteArray} (hs : s.size ≤ 9223372036854775807) (good : Bool) (hr : (D.beg good).1 ≠ 0) :
    Calls Try.prog 48 #[.pointer (some ⟨p, 0, none⟩), .string s, .bool good] w fun e w' => e = .returned (.tuple #[.pointer none, .int .i64 (D.beg good).1]) ∧ DiskAt w' p m G (D.beg good).2 ∧ Goes w w' (zone p m G D.L) (zone p m G D.L) := by
  have B := begin_any h ho good
  clear h
  generalize (D.beg good) = r at *
  obtain ⟨r1, r2⟩ := r
  simp only at hr B ⊢
  go_enter Try.func48, Try.ntmps48
  go_wp2_with fail
  refine B.mono ?_
  rintro e w' ⟨rfl, h3, g3⟩
  have H3 := Lib.hid h3
  have G3 := Lib.hid g3
  clear h3 g3 B
  go_wp2
  go_ret2
  exact ⟨rfl, H3.out, G3.out⟩
set_option maxRecDepth 100000 in
set_option maxHeartbeats 1000000 in
theorem reach_none (h : DiskAt w p m G D) (ho : D.ops ≤ 1099511627776) {s : ByteArray} (hs : s.size ≤ 9223372036854775807) (good : Bool) (hr : (D.beg good).1 = 0) (hg : getF (kl s) (D.beg good).2.L = none) :
    Calls Try.prog 48 #[.pointer (some ⟨p, 0, none⟩), .string s, .bool good] w fun e w' => e = .returned (.tuple #[.pointer none, .int .i64 7]) ∧ DiskAt w' p m G (D.beg good).2 ∧ Goes w w' (zone p m G D.L) (zone p m G D.L) := by
  have B := begin_any h ho good
  clear h
  rw [hr] at B
  generalize (D.beg good).2 = r at *
  have FD := Lib.hid fun w' (h' : DiskAt w' p m G r) => find_any h' hs
  rw [hg] at FD
  go_enter Try.func48, Try.ntmps48
  go_wp2_with fail
  refine B.mono ?_
  rintro e w' ⟨rfl, h3, g3⟩
  have FF := FD.out w' h3
  unfold fp at FF
  simp only [Option.map_none] at FF
  have H3 := Lib.hid h3
  have G3 := Lib.hid g3
  clear h3 g3 B FD
  go_wp2_with fail
  refine FF.mono ?_
  rintro e w' ⟨rfl, rfl⟩
  clear FF
  go_wp2
  go_ret2
  exact ⟨rfl, H3.out, G3.out⟩
set_option maxRecDepth 100000 in
set_option maxHeartbeats 1000000 in
theorem reach_some (h : DiskAt w p m G D) (ho : D.ops ≤ 1099511627776) {s : ByteArray} (hs : s.size ≤ 9223372036854775807) (good : Bool) (hr : (D.beg good).1 = 0) {f : Fi} (hg : getF (kl s) (D.beg good).2.L = some f) :
    Calls Try.prog 48 #[.pointer (some ⟨p, 0, none⟩), .string s, .bool good] w fun e w' => e = .returned (.tuple #[.pointer (some ⟨(G f.nm).1, 0, none⟩), .int .i64 0]) ∧ DiskAt w' p m G (D.beg good).2 ∧ Goes w w' (zone p m G D.L) (zone p m G D.L) := by
  have B := begin_any h ho good
  clear h
  rw [hr] at B
  generalize (D.beg good).2 = r at *
  have FD := Lib.hid fun w' (h' : DiskAt w' p m G r) => find_any h' hs
  rw [hg] at FD
  simp only [fp, Option.map_some] at FD
  generalize (G f.nm).1 = g at *
  go_enter Try.func48, Try.ntmps48
  go_wp2_with fail
  refine B.mono ?_
  rintro e w' ⟨rfl, h3, g3⟩
  have FF := FD.out w' h3
  have H3 := Lib.hid h3
  have G3 := Lib.hid g3
  clear h3 g3 B FD
  go_wp2_with fail
  refine FF.mono ?_
  rintro e w' ⟨rfl, rfl⟩
  clear FF
  go_wp2
  go_ret2
  exact ⟨rfl, H3.out, G3.out⟩
end
end Go.Proofs.Ytdmgobffhpgjlaa.Pk
end

section
namespace Go.Proofs.Ytdmgobffhpgjlaa.Pk
open Go.RowKit Go.PlainAid Go.Maps
set_option linter.unusedVariables false
set_option maxRecDepth 20000
set_option linter.unusedSimpArgs false

theorem bv_len (l : Bs) : (l.map bv).length = l.length := by simp
theorem RowB.form {w : World} {v : Value} {bs : Bs} (h : RowB w v bs) : ∃ o cap, v = .slice o bs.length cap ∧ bs.length ≤ 9223372036854775807 := by
  rcases h with ⟨rfl, rfl⟩ | ⟨g, cap, cur, fr, rfl, hg, hf, hl, hm, _⟩
  · exact ⟨none, 0, rfl, by simp⟩
  · exact ⟨_, cap, rfl, by unfold maxLen at hm; omega⟩
theorem frozen_row {w : World} {g : Nat} {cur : Array Value} {t : TypeId} {fr : Nat × Nat} (hg : w.heap[g]? = some (.cells cur t fr)) (hf : fr = (0, 0) ∨ fr = (cur.size, cur.size + 1)) {j : Nat} (hj : j < cur.size) : w.frozen? ⟨g, j, none⟩ = false := by
  rcases hf with rfl | rfl
  · simp [World.frozen?, hg]
  · simp only [World.frozen?, hg]
    have : ¬ cur.size ≤ j := by omega
    simp [this]
theorem RowB.cells {w : World} {g len cap : Nat} {bs : Bs} (h : RowB w (.slice (some ⟨g, 0, none⟩) len cap) bs) : len = bs.length ∧ ∀ j c, bs[j]? = some c → w.cell? ⟨g, j, none⟩ = some (bv c) ∧ w.frozen? ⟨g, j, none⟩ = false := by
  rcases h with ⟨e, _⟩ | ⟨g', cap', cur, fr, e, hg, hf, hl, hm, hc, ht⟩
  · cases e
  · injection e with e1 e2 e3
    injection e1 with e1
    injection e1 with e1
    subst e1 e2 e3
    refine ⟨rfl, fun j c hj => ?_⟩
    have hlt := (List.getElem?_eq_some_iff.1 hj).1
    refine ⟨?_, frozen_row hg hf (by omega)⟩
    rw [cell_of_row _ _ _ _ _ _ hg]
    have e : (cur.toList.take bs.length)[j]? = some (bv c) := by rw [ht]; simp [hj]
    rw [List.getElem?_take, if_pos hlt] at e
    simpa using e
theorem bv_cast (c : UInt8) : bv c = .int .u8 (c.toNat : Int) := rfl
/-- string(bytes) -/
theorem RowB.text {w : World} {v : Value} {bs : Bs} (h : RowB w v bs) : (convert 73 9 v).run Try.prog w = .ok (.string ⟨bs.toArray⟩) w := by
  rcases h with ⟨rfl, rfl⟩ | ⟨g, cap, cur, fr, rfl, hg, hf, hl, hm, hc, ht⟩
  · rw [run_convert_bytes_string w 73 9 5 none 0 0 Try.underlying73 Try.underlying5 Try.underlying9]
    simp [Conv.bytesToString, Sem.run_pure]
    rfl
  · refine run_convert_bytes_back w 73 9 5 ⟨g, 0, none⟩ cap bs Try.underlying73 Try.underlying5 Try.underlying9 fun j hj => ?_
    rw [add_addr, Nat.zero_add, cell_of_row _ _ _ _ _ _ hg]
    have e : (cur.toList.take bs.length)[j]? = some (bv bs[j]) := by rw [ht]; simp [hj]
    rw [List.getElem?_take, if_pos hj] at e
    simpa [bv] using e
/-- string(bytes[a:][:n]) -/
theorem part_text {w : World} {g cap : Nat} {bs : Bs} (h : ∀ j c, bs[j]? = some c → w.cell? ⟨g, j, none⟩ = some (bv c)) {a n : Nat} (han : a + n ≤ bs.length) (cap' : Nat) :
    (convert 73 9 (.slice (some ⟨g, a, none⟩) n cap')).run Try.prog w = .ok (.string ⟨((bs.drop a).take n).toArray⟩) w := by
  have hl : ((bs.drop a).take n).length = n := by simp; omega
  have := run_convert_bytes_back w 73 9 5 ⟨g, a, none⟩ cap' ((bs.drop a).take n) Try.underlying73 Try.underlying5 Try.underlying9 (P := Try.prog) fun j hj => by
    rw [add_addr]
    rw [hl] at hj
    have := h (a + j) bs[a + j] (by simp)
    rw [this, bv]
    simp
  rw [hl] at this
  exact this
/-- bytes[:n] -/
theorem RowB.cut {w : World} {o : Option Addr} {len cap : Nat} {bs : Bs} (h : RowB w (.slice o len cap) bs) {n : Nat} (hn : n ≤ bs.length) : RowB w (.slice o n cap) (bs.take n) := by
  rcases h with ⟨e, rfl⟩ | ⟨g, cap', cur, fr, e, hg, hf, hl, hm, hc, ht⟩
  · injection e with e1 e2 e3
    subst e1 e3
    simp at hn
    subst hn
    exact .inl ⟨rfl, rfl⟩
  · injection e with e1 e2 e3
    subst e1 e2 e3
    have hb : (bs.take n).length = n := by simp; omega
    refine .inr ⟨g, cap, cur, fr, by rw [hb], hg, hf, by omega, hm, hc, ?_⟩
    rw [hb, List.map_take, ← ht, List.take_take, Nat.min_eq_left hn]
theorem setCells_heap (b : Nat) (t : TypeId) (fr : Nat × Nat) : ∀ (vs : List Value) (o : Nat) (w : World) (cur : Array Value), w.heap[b]? = some (.cells cur t fr) → o + vs.length ≤ cur.size →
    (∃ c : Array Value, (w.setCells b o vs).heap[b]? = some (.cells c t fr) ∧ c.toList = cur.toList.take o ++ vs ++ cur.toList.drop (o + vs.length)) ∧ (∀ k, k ≠ b → (w.setCells b o vs).heap[k]? = w.heap[k]?) ∧ (w.setCells b o vs).heap.size = w.heap.size ∧ (w.setCells b o vs).os = w.os ∧ (w.setCells b o vs).tape = w.tape ∧ (w.setCells b o vs).output = w.output
  | [], o, w, cur, h, _ => ⟨⟨cur, h, by simp⟩, fun _ _ => rfl, rfl, rfl, rfl, rfl⟩
  | v :: r, o, w, cur, h, hl => by
    simp at hl
    obtain ⟨⟨c, h1, h2⟩, h3, h4, h5, h6, h7⟩ := setCells_heap b t fr r (o + 1) (w.setCell ⟨b, o, none⟩ v) (cur.setIfInBounds o v) (heap_set w b o v cur t fr h) (by simp; omega)
    refine ⟨⟨c, h1, ?_⟩, fun k hk => ?_, ?_, h5, h6, h7⟩
    · rw [h2]
      have e := list_seg_step cur.toList o v r (by simp; omega)
      simpa [Array.toList_setIfInBounds, Nat.add_assoc, Nat.add_comm 1] using e
    · show ((w.setCell ⟨b, o, none⟩ v).setCells b (o + 1) r).heap[k]? = _
      rw [h3 k hk, Below.heap_setCell _ _ _ _ hk]
    · show ((w.setCell ⟨b, o, none⟩ v).setCells b (o + 1) r).heap.size = _
      rw [h4]
      simp
theorem strCells_bv (s : ByteArray) : Lib.strCells s = (kl s).map bv := rfl
theorem info_u8 : (Try.prog.info? 5).map (fun i => (i.zero, i.size, i.bytes)) = some (some (.int .u8 0), 1, 1) := by kernel_rfl
/-- append(bytes, text...) -/
theorem RowB.append {w : World} {v : Value} {bs : Bs} (h : RowB w v bs) (s : ByteArray) (hb : bs.length + s.size ≤ 1099511627776) (ty : TypeId) :
    ∃ v' w', (Builtin.append_ #[73, 9] ty #[v, .string s]).run Try.prog w = .ok v' w' ∧ RowB w' v' (bs ++ kl s) ∧ w.grownBy w' v.ownBlock ∧ (v'.ownBlock = v.ownBlock ∨ v'.ownBlock = some w.heap.size) := by
  obtain ⟨i, hi, hz, hs1, hb1⟩ := info_parts info_u8
  have ht := Try.underlying73
  have hu := Try.underlying9
  have hkl := kl_len s
  have hlen : (bs ++ kl s).length = bs.length + s.size := by simp [hkl]
  have grown : ∀ (old : Nat), ∀ row : Option Nat, RowB (w.drew.alloc (.cells ((bs.map bv).toArray ++ (Lib.strCells s).toArray ++ Builtin.zeroCells (Value.int .u8 0).cells (grownCap w (bs.length + s.size) old 5 - (bs.length + s.size))) 5))
        (.slice (some ⟨w.heap.size, 0, none⟩) (bs.length + s.size) (grownCap w (bs.length + s.size) old 5)) (bs ++ kl s) ∧
      w.grownBy (w.drew.alloc (.cells ((bs.map bv).toArray ++ (Lib.strCells s).toArray ++ Builtin.zeroCells (Value.int .u8 0).cells (grownCap w (bs.length + s.size) old 5 - (bs.length + s.size))) 5)) row := by
    intro old row
    have hge := grownCap_ge w (bs.length + s.size) old 5
    have hcm := grownCap_le_maxLen w (bs.length + s.size) old 5 (by unfold maxLen; omega)
    refine ⟨.inr ⟨w.heap.size, _, _, (0, 0), by rw [hlen], heap_alloc_new w.drew _, .inl rfl, by rw [hlen]; exact hge, hcm, ?_, ?_⟩, ⟨rfl, rfl, rfl, by simp, fun k hk _ => heap_alloc_old w.drew _ k hk⟩⟩
    · have hz1 : (Value.int IntKind.u8 0).cells.size = 1 := rfl
      simp only [Array.size_append, List.size_toArray, size_zeroCells, hz1, bv_len, Lib.strCells_length]
      omega
    · simp only [Array.toList_append, List.append_assoc, strCells_bv]
      rw [← List.append_assoc, ← List.map_append]
      rw [List.take_append_of_le_length (by simp), List.take_of_length_le (by simp)]
  rcases h with ⟨rfl, rfl⟩ | ⟨g, cap, cur, fr, rfl, hg, hf, hl, hm, hc, htk⟩
  · by_cases h0 : s.size = 0
    · have hn : kl s = [] := List.eq_nil_of_length_eq_zero (by rw [hkl]; exact h0)
      refine ⟨.slice none 0 0, w, ?_, .inl ⟨rfl, by rw [hn]; rfl⟩, ⟨rfl, rfl, rfl, Nat.le_refl _, fun _ _ _ => rfl⟩, .inl rfl⟩
      have hf := Lib.run_firstCells_string (P := Try.prog) w 1 s
      rw [h0] at hf
      simp [Builtin.append_, run_underlying ht, run_underlying hu, sizeOf, typeInfo, hi, hs1, Builtin.lenOf, h0, hf]
    · have hr := run_append_nil_string (P := Try.prog) w 73 9 ty 5 i (.int .u8 0) ht hu hi hz s (by omega) (by omega) (by rw [hb1]; omega)
      have hgr := grown 0 (Value.ownBlock (.slice none 0 0))
      simp only [List.length_nil, Nat.zero_add, List.nil_append, List.map_nil, Array.empty_append] at hgr ⊢
      have e1 : (s.data.map fun b => Value.int .u8 b.toNat) = (Lib.strCells s).toArray := by
        apply Array.ext'
        simp [Lib.strCells]
      rw [e1] at hr
      exact ⟨_, _, hr, hgr.1, hgr.2, .inr rfl⟩
  · by_cases hroom : bs.length + s.size ≤ cap
    · have hst := run_storeCells_cells (P := Try.prog) g bs.length (Lib.strCells s) 0 w (fun j hj => by
          rw [cell_of_row _ _ _ _ _ _ hg]
          rw [Lib.strCells_length] at hj
          simp
          omega) (fun j hj => by
          rw [Lib.strCells_length] at hj
          exact frozen_row hg hf (by omega)) (Lib.strCells_oneCell s)
      simp only [Nat.add_zero] at hst
      obtain ⟨⟨c, h1, h2⟩, h3, h4, h5, h6, h7⟩ := setCells_heap g 5 fr (Lib.strCells s) bs.length w cur hg (by rw [Lib.strCells_length]; omega)
      have hcs : c.size = cur.size := by
        rw [← Array.length_toList, h2]
        simp [Lib.strCells_length]
        omega
      refine ⟨.slice (some ⟨g, 0, none⟩) (bs.length + s.size) cap, w.setCells g bs.length (Lib.strCells s), ?_, .inr ⟨g, cap, c, fr, by rw [hlen], h1, by rw [hcs]; exact hf, by omega, hm, by omega, ?_⟩, ⟨h5, h6, h7, by omega, fun k hk hne => h3 k fun e => hne (by simp [Value.ownBlock, e])⟩, .inl rfl⟩
      · have hff := Lib.run_firstCells_string (P := Try.prog) w 1 s
        simp [Builtin.append_, run_underlying ht, run_underlying hu, sizeOf, typeInfo, hi, hs1, Builtin.lenOf, hroom, hff, Addr.add_lit, hst]
      · rw [h2, hlen, htk, strCells_bv, ← List.map_append, ← hlen, List.take_append_of_le_length (by simp), List.take_of_length_le (by simp)]
    · have holds : ∀ j u, (bs.map bv)[j]? = some u → w.cell? ((⟨g, 0, none⟩ : Addr).add j) = some u := by
        intro j u hu'
        rw [add_addr, Nat.zero_add, cell_of_row _ _ _ _ _ _ hg]
        rw [← htk, List.getElem?_take] at hu'
        split at hu'
        · simpa using hu'
        · cases hu'
      have hr := Lib.run_append_grow_string (P := Try.prog) w 73 9 ty 5 i (.int .u8 0) ht hu hi hz ⟨g, 0, none⟩ bs.length cap (bs.map bv) (by rw [hs1]; simp) holds s (by omega) (by omega) (by rw [hb1]; exact growslice_fits (by omega) (by omega))
      have hgr := grown cap (Value.ownBlock (.slice (some ⟨g, 0, none⟩) bs.length cap))
      exact ⟨_, _, hr, hgr.1, hgr.2, .inr rfl⟩
/-- one byte is another one -/
theorem RowB.setByte {w : World} {g len cap : Nat} {bs : Bs} (h : RowB w (.slice (some ⟨g, 0, none⟩) len cap) bs) {j : Nat} (hj : j < bs.length) (c : UInt8) : RowB (w.setCell ⟨g, j, none⟩ (bv c)) (.slice (some ⟨g, 0, none⟩) len cap) (bs.set j c) := by
  rcases h with ⟨e, _⟩ | ⟨g', cap', cur, fr, e, hg, hf, hl, hm, hc, ht⟩
  · cases e
  · injection e with e1 e2 e3
    injection e1 with e1
    injection e1 with e1
    subst e1 e2 e3
    refine .inr ⟨g, cap, _, fr, by simp, heap_set _ _ _ _ _ _ _ hg, by simpa using hf, by simpa using hl, hm, by simpa using hc, ?_⟩
    simp only [List.length_set, Array.toList_setIfInBounds, List.map_set, ← ht, List.take_set]
/-- []byte(text) -/
theorem conv_text (w : World) (s : ByteArray) (hs : s.size ≤ 1099511627776) : ∃ cap X, (convert 9 73 (.string s)).run Try.prog w = .ok (.slice (some ⟨w.heap.size, 0, none⟩) s.size cap) X ∧ RowB X (.slice (some ⟨w.heap.size, 0, none⟩) s.size cap) (kl s) ∧ Below w.heap.size w X ∧ X.heap.size = w.heap.size + 1 := by
  have hge := grownCap_ge w s.size 0 5
  have hcm := grownCap_le_maxLen w s.size 0 5 (by unfold maxLen; omega)
  have hkl := kl_len s
  have hsz : (Lib.bytesCells w 5 s).size = grownCap w s.size 0 5 := by
    simp [Lib.bytesCells]
    omega
  refine ⟨_, _, Lib.run_convert_string_bytes w 9 73 5 s Try.underlying9 Try.underlying73 Try.underlying5, .inr ⟨w.heap.size, _, _, _, by rw [hkl], Lib.bytesWorld_at_new w 5 s, .inr rfl, by rw [hkl]; exact hge, hcm, hsz, ?_⟩, ⟨rfl, rfl, rfl, by rw [Lib.bytesWorld_size]; omega, fun k hk => Lib.bytesWorld_at_old _ _ _ k hk⟩, Lib.bytesWorld_size _ _ _⟩
  simp only [Lib.bytesCells, Array.toList_append, Array.toList_map]
  rw [List.take_append_of_le_length (by simp [hkl]), List.take_of_length_le (by simp [hkl])]
  rfl
end Go.Proofs.Ytdmgobffhpgjlaa.Pk
end

section
namespace Go.Proofs.Ytdmgobffhpgjlaa.Pk
open Go.RowKit Go.PlainAid Go.Maps
set_option linter.unusedVariables false
set_option maxRecDepth 20000
set_option linter.unusedSimpArgs false

section
variable {w : World} {p m : Nat} {G : Gs} {D : Dk}
theorem FileAt.cell0 {f : Fi} {x : Nat × Value} (h : FileAt w f x) : w.cell? ⟨x.1, 0, none⟩ = some x.2 := cell_of_row _ _ _ _ _ _ h.st
theorem FileAt.cell1 {f : Fi} {x : Nat × Value} (h : FileAt w f x) : w.cell? ⟨x.1, 1, none⟩ = some (.int .i64 (f.sf : Int)) := cell_of_row _ _ _ _ _ _ h.st
theorem FileAt.frozen {f : Fi} {x : Nat × Value} (h : FileAt w f x) (j : Nat) : w.frozen? ⟨x.1, j, none⟩ = false := frozen_of_row _ _ _ _ _ h.st
set_option maxRecDepth 100000 in
set_option maxHeartbeats 1000000 in
theorem size_any (h : DiskAt w p m G D) {s : ByteArray} (hs : s.size ≤ 9223372036854775807) :
    Calls Try.prog 21 #[.pointer (some ⟨p, 0, none⟩), .string s] w fun e w' => e = .returned (.int .i64 (D.size (kl s))) ∧ w = w' := by
  have F := find_any h hs
  unfold Dk.size
  cases hg : getF (kl s) D.L with
  | none =>
    rw [hg] at F
    simp only [fp, Option.map_none] at F ⊢
    clear h hg
    go_enter Try.func21, Try.ntmps21
    go_wp2_with fail
    refine F.mono ?_
    rintro e w' ⟨rfl, rfl⟩
    clear F
    go_wp2
    go_ret
    exact ⟨rfl, rfl⟩
  | some f =>
    rw [hg] at F
    simp only [fp, Option.map_some] at F ⊢
    have hf := h.file f (get_some hg).1
    obtain ⟨o, cap, e1, _⟩ := hf.row.form
    have c0 := hf.cell0
    rw [e1] at c0
    clear h hg hf e1
    generalize (G f.nm).1 = g at *
    generalize f.bs.length = n at *
    go_enter Try.func21, Try.ntmps21
    go_wp2_with fail
    refine F.mono ?_
    rintro e w' ⟨rfl, rfl⟩
    clear F
    go_wp2
    go_ret
    exact ⟨rfl, rfl⟩
end

/-! ### the sum over a map, in whatever order -/
def leftF (left : Lit → Bool) (l : List Fi) : Nat := usedF (l.filter fun f => !left (.string f.nm))
theorem leftF_start (G : Gs) (l : List Fi) : leftF (Maps.has (datum G l)) l = 0 := by
  unfold leftF
  rw [List.filter_eq_nil_iff.2]
  · rfl
  · intro f hf
    have : Maps.has (datum G l) (.string f.nm) = true := by
      unfold datum
      rw [has_eq, List.any_eq_true]
      exact ⟨ent G f, List.mem_map.2 ⟨f, hf, rfl⟩, by simp [ent, Lit.sameKey]⟩
    simp [this]
theorem leftF_end {left : Lit → Bool} (h : ∀ k, left k = false) (l : List Fi) : leftF left l = usedF l := by
  unfold leftF
  rw [List.filter_eq_self.2]
  intro f hf
  simp [h]
theorem leftF_step {left : Lit → Bool} {l : List Fi} (hu : l.Pairwise fun x y => x.nm ≠ y.nm) {f : Fi} (hf : f ∈ l) (h : left (.string f.nm) = true) : leftF (fun z => left z && !z.sameKey (.string f.nm)) l = leftF left l + f.bs.length := by
  unfold leftF
  induction l with
  | nil => simp at hf
  | cons a r ih =>
    obtain ⟨h1, h2⟩ := List.pairwise_cons.1 hu
    rcases List.mem_cons.1 hf with rfl | hf
    · have e : (r.filter fun g => !(left (.string g.nm) && !(Lit.string g.nm).sameKey (.string f.nm))) = r.filter fun g => !left (.string g.nm) := by
        refine List.filter_congr fun g hg => ?_
        have : ((Lit.string g.nm).sameKey (.string f.nm)) = false := by
          simpa [Lit.sameKey] using (h1 g hg).symm
        rw [this]
        simp
      rw [List.filter_cons, List.filter_cons, if_pos (by simp [Lit.sameKey]), if_neg (by simp [h]), e]
      simp [usedF]
      omega
    · have hne := h1 f hf
      have : ((Lit.string a.nm).sameKey (.string f.nm)) = false := by simpa [Lit.sameKey] using hne
      have ih := ih h2 hf
      rw [List.filter_cons, List.filter_cons]
      simp only [this] at ih ⊢
      by_cases c : left (.string a.nm) = true
      · rw [if_neg (by simp [c]), if_neg (by simp [c])]
        exact ih
      · rw [if_pos (by simp [c]), if_pos (by simp [c])]
        simp only [usedF, ih]
        omega
theorem leftF_le (left : Lit → Bool) (l : List Fi) : leftF left l ≤ usedF l := by
  unfold leftF
  induction l with
  | nil => simp [usedF]
  | cons a r ih =>
    rw [List.filter_cons]
    split
    · simp [usedF]; omega
    · simp [usedF]; omega
section
variable {w : World} {p m : Nat} {G : Gs} {D : Dk}
theorem wpl_next {ops : Array Oper} {rest : List Oper} {o : Oper} {a : Act} {Q : Exit → Act → World → Prop} (hgd : o.guard = none) (it : Operand) (hop : o.op = Op.next it false) {r n cnt : Nat} {l : List Fi} {left : Lit → Bool}
    (hit : a.eval it = .pointer (some ⟨r, 0, none⟩)) (h : w.ranges Try.prog 9 RF m r n (datum G l) left cnt)
    (hDone : (∀ k, left k = false) → wpList Try.prog ops Q rest (a.put o.dst (.tuple #[.bool false])) w)
    (hMore : ∀ f ∈ l, left (.string f.nm) = true → ∀ (w' : World) (cnt' : Nat), w'.ranges Try.prog 9 RF m r n (datum G l) (fun z => left z && !z.sameKey (.string f.nm)) cnt' → cnt' < cnt → w.grownBy w' (some r) →
      (Instr.entry (.pointer (some ⟨r, 0, none⟩))).run Try.prog w' = .ok (.tuple #[.string ⟨f.nm.toArray⟩, .pointer (some ⟨(G f.nm).1, 0, none⟩)]) w' → wpList Try.prog ops Q rest (a.put o.dst (.tuple #[.bool true, .string ⟨f.nm.toArray⟩, .pointer (some ⟨(G f.nm).1, 0, none⟩)])) w') :
    wpList Try.prog ops Q (o :: rest) a w := by
  refine wpList_plain hgd fun K' hK' => ?_
  unfold Oper.wp
  rcases h.next kname o.type with ⟨h0, hl, hrun⟩ | ⟨key, v, kk, y, w', cnt', hkey, hlk, hv, hat, hrun, hrg, hlt, hgr, hsz, hen⟩
  · simp [execOp, hop, hit, hrun, Result.andThen]
    exact hK' _ _ (hDone hl)
  · obtain ⟨x, rfl, rfl, _⟩ := Maps.keyOf_str Try.underlying9 hkey
    have e := hat .nil
    have e' := hat (.lit (.bool true))
    rw [datum_at] at e e'
    cases hgf : getF x l with
    | none =>
      rw [hgf] at e e'
      simp only at e e'
      rw [← e] at e'
      cases e'
    | some f =>
      rw [hgf] at e
      obtain ⟨hf, rfl⟩ := get_some hgf
      obtain ⟨y1, y2⟩ := y
      simp only at e
      subst e
      have ev := RF_inv hv
      subst ev
      simp [execOp, hop, hit, hrun, Result.andThen]
      exact hK' _ _ (hMore f hf hlk w' cnt' hrg hlt hgr hen)
theorem used_small (h : DiskAt w p m G D) : usedF D.L ≤ 4194304 := by
  have := h.ok.used
  have := h.ok.room1
  omega
set_option maxRecDepth 100000 in
set_option maxHeartbeats 1000000 in
theorem used_any (h : DiskAt w p m G D) :
    Calls Try.prog 50 #[.pointer (some ⟨p, 0, none⟩)] w fun e w' => e = .returned (.int .i64 (usedF D.L : Int)) ∧ Below w.heap.size w w' := by
  have c1 := h.hand
  have hown := h.map
  have hus := used_small h
  have hlt := in_heap h.head
  have hno := h.ok.up.ne
  have C : ∀ f ∈ D.L, ∀ w', Below w.heap.size w w' → ∃ o cap, w'.cell? ⟨(G f.nm).1, 0, none⟩ = some (.slice o f.bs.length cap) := by
    intro f hf w' hb
    obtain ⟨o, cap, e1, _⟩ := (h.file f hf).row.form
    have c0 := (h.file f hf).cell0
    rw [e1] at c0
    exact ⟨o, cap, by rw [hb.cell (in_heap (h.file f hf).st)]; exact c0⟩
  have CH := Lib.hid C
  have NO := Lib.hid hno
  clear h C hno
  go_enter Try.func50, Try.ntmps50
  go_wp2_with (first | (at_range; refine wpList_range_own _ rfl _ 53 rfl 9 72 kname Try.underlying53 _ m D.L.length _ rfl hown ?_; intro w0 hrg0 hg0 hs0) | go_in)
  go_frame
  go_loopw [3] (fun x wr => ∃ left cnt, wr.ranges Try.prog 9 RF m w.heap.size D.L.length (datum G D.L) left cnt ∧ x = .int .i64 (leftF left D.L : Nat) ∧ Below w.heap.size w wr) (fun _ wr => wr.rangeLeft m w.heap.size)
  case atStart => exact ⟨_, _, hrg0, by rw [leftF_start]; rfl, (Below.refl _ _).grown hg0 (Nat.le_refl _) (by simp)⟩
  case round =>
    obtain ⟨left, cnt, hrg, rfl, hb⟩ := hrel
    go_wp2_with (first | (at_next; refine wpl_next rfl _ rfl rfl hrg ?_ ?_))
    · intro hl0
      go_wp2
      go_ret
      exact ⟨by rw [leftF_end hl0]; rfl, hb⟩
    · intro f hf hlk w2 cnt2 hrg2 hlt2 hg2 hen
      have hb2 := hb.grown hg2 (by have := hb.size; exact this) (by simp)
      obtain ⟨o, cap, c0⟩ := CH.out f hf w2 hb2
      have st := leftF_step NO.out hf hlk
      have le := leftF_le (fun z => left z && !z.sameKey (.string f.nm)) D.L
      rw [st] at le
      go_wp2
      go_roundw
      case rel => exact ⟨_, _, hrg2, by rw [st]; go_num, hb2⟩
      case measure => rw [hrg2.left_eq, hrg.left_eq]; exact hlt2
end

/-! ### names, rising -/
theorem before_lt : ∀ {a b : Bs}, bytesBefore a b = true → a < b
  | [], [], h => by simp [bytesBefore] at h
  | [], _ :: _, _ => List.nil_lt_cons _ _
  | _ :: _, [], h => by simp [bytesBefore] at h
  | a :: r, b :: s, h => by
    simp only [bytesBefore, Bool.or_eq_true, Bool.and_eq_true, decide_eq_true_eq, beq_iff_eq] at h
    rw [List.cons_lt_cons_iff]
    rcases h with h | ⟨h, h'⟩
    · exact .inl h
    · exact .inr ⟨h, before_lt h'⟩
theorem sorted_names {l : List Fi} (h : Up l) : (l.map Fi.nm).mergeSort leB = l.map Fi.nm := by
  refine List.mergeSort_of_pairwise ?_
  rw [List.pairwise_map]
  refine h.imp fun {x y} hxy => ?_
  simp only [leB, decide_eq_true_eq]
  exact List.le_of_lt (before_lt hxy)
def nmV (f : Fi) : Value := .string ⟨f.nm.toArray⟩
/-- v is the row of the files' names, in a block that isn't below base -/
def NmAt (w : World) (base : Nat) (v : Value) (l : List Fi) : Prop := ∃ o cap, v = .slice o l.length cap ∧ ∀ j f, l[j]? = some f → ∃ g, o = some ⟨g, 0, none⟩ ∧ base ≤ g ∧ g < w.heap.size ∧ w.cell? ⟨g, j, none⟩ = some (nmV f)
theorem strKeys_datum (G : Gs) (l : List Fi) : strKeys (datum G l) = l.map Fi.nm := by
  show (l.map (ent G)).map (fun p => strOf p.1) = _
  rw [List.map_map]
  rfl
section
variable {w : World} {p m : Nat} {G : Gs} {D : Dk}
set_option maxRecDepth 100000 in
set_option maxHeartbeats 1000000 in
theorem list_any (h : DiskAt w p m G D) :
    Calls Try.prog 31 #[.pointer (some ⟨p, 0, none⟩)] w fun e w' => ∃ v, e = .returned v ∧ NmAt w' w.heap.size v D.L ∧ Below w.heap.size w w' := by
  have c1 := h.hand
  have cn := h.ok.cnt
  have hsz : Maps.size (datum G D.L) ≤ 200 := by rw [datum_size]; exact cn
  have K := callsIn_wide.1 (keys_call (some m) w)
  have S := callsIn_wide.1 (sorted_call m D.L.length (datum G D.L) RF w h.map (by unfold maxLen; omega) (by omega))
  have U := h.ok.up
  clear h
  go_enter Try.func31, Try.ntmps31
  go_wp2_with fail
  refine K.mono ?_
  rintro e w' ⟨rfl, rfl⟩
  go_wp2_with fail
  refine S.mono ?_
  rintro e w' ⟨v, ss, rfl, hS, hrow, hnil, hb⟩
  clear K S
  go_wp2
  go_ret
  refine ⟨v, rfl, ?_, ((Below.refl _ w).alloc (Nat.le_refl _) _).trans (hb.mono (by simp))⟩
  have e1 : ss.mergeSort leB = D.L.map Fi.nm := by
    rw [mergeSort_of_perm hS, strKeys_datum, sorted_names U]
  have e2 : ss.length = D.L.length := by
    rw [hS.length_eq, strKeys_datum]; simp
  have hrow' : w'.ownsRow (w.alloc (.cells #[.map (some m)] 53)).heap.size 9 1 v ss.length ((ss.mergeSort leB).map encStr) := hrow
  rw [e1, e2] at hrow'
  rcases hrow'.2 with ⟨rfl, h0⟩ | ⟨g, cap, cur, rfl, hbg, hg, _⟩
  · have : D.L = [] := List.eq_nil_of_length_eq_zero h0
    rw [this]
    exact ⟨none, 0, rfl, by simp⟩
  · refine ⟨some ⟨g, 0, none⟩, cap, rfl, fun j f hj => ⟨g, rfl, ?_, in_heap hg, ?_⟩⟩
    · simp at hbg
      omega
    · have := hrow'.cells (g := g) rfl j (nmV f) (by simp [hj, nmV])
      rw [add_addr, Nat.zero_add] at this
      exact this
theorem list_nil (w : World) : Calls Try.prog 31 #[.pointer none] w fun e w' => e = .returned (.slice none 0 0) ∧ w = w' := by
  go_enter Try.func31, Try.ntmps31
  go_wp2
  go_ret
  exact ⟨rfl, rfl⟩
set_option maxRecDepth 100000 in
set_option maxHeartbeats 1000000 in
theorem arm_any (h : DiskAt w p m G D) (ho : D.ops ≤ 1099511627776) (pos kind more : Int) (hm : more ≤ 9223372036854775807) :
    Calls Try.prog 9 #[.pointer (some ⟨p, 0, none⟩), .int .i64 pos, .int .i64 kind, .int .i64 more] w fun e w' => e = .returned (.tuple #[]) ∧ DiskAt w' p m G (D.arm pos kind more) ∧ Goes w w' (zone p m G D.L) (zone p m G D.L) := by
  have o0 := h.ok.ops0
  have okA : { D with kd := 0, fa := 0, fm := 0 }.Ok := ⟨h.ok.room0, h.ok.room1, h.ok.ops0, .inl rfl, by simp, by simp, by simp, by simp, h.ok.up, h.ok.names, h.ok.safe, h.ok.used, h.ok.cnt⟩
  obtain ⟨X, S, h2, g2⟩ := h.store 0 0 0 (D' := { D with kd := 0, fa := 0, fm := 0 }) rfl okA rfl
  have okB := h.ok.arm ho pos kind more hm
  clear h
  unfold Dk.arm at okB ⊢
  by_cases c : pos < 1 ∨ 1099511627776 < pos ∨ (kind ≠ 1 ∧ kind ≠ 2)
  · rw [if_pos c]
    have H2 := Lib.hid h2
    have G2 := Lib.hid g2
    clear h2 g2 okA okB
    have c1 : pos < 1 ∨ (¬ pos < 1 ∧ 1099511627776 < pos) ∨ (¬ pos < 1 ∧ ¬ 1099511627776 < pos ∧ kind ≠ 1 ∧ kind ≠ 2) := by omega
    clear c
    have c1 : pos < 1 ∨ (¬ pos < 1 ∧ 1099511627776 < pos) ∨ (¬ pos < 1 ∧ ¬ 1099511627776 < pos ∧ (kind != 1) = true ∧ (kind != 2) = true) := by
      rcases c1 with c1 | c1 | ⟨c1, c2, c3, c4⟩
      · exact .inl c1
      · exact .inr (.inl c1)
      · exact .inr (.inr ⟨c1, c2, by simpa using c3, by simpa using c4⟩)
    rcases c1 with c1 | ⟨c1, c2⟩ | ⟨c1, c2, c3, c4⟩
    all_goals
      go_enter Try.func9, Try.ntmps9
      go_wp2_with (first | refine wpl_store S rfl rfl rfl rfl rfl ?_)
      exact bodyPost_ret (v := .tuple #[]) (by simp [results, Try.results9, go_sem]) rfl ⟨rfl, H2.out, G2.out⟩
  · rw [if_neg c] at okB ⊢
    have p1 : 1 ≤ pos ∧ pos ≤ 1099511627776 ∧ (kind = 1 ∨ kind = 2) := by omega
    clear c
    obtain ⟨p1, p2, p3⟩ := p1
    have c2 := h2.cell 2
    simp [headV] at c2
    have okC := okB
    obtain ⟨Y, T, h3, g3⟩ := h2.store kind (D.ops + pos) (max more 0) (D' := { D with kd := kind, fa := D.ops + pos, fm := max more 0 }) rfl okB rfl
    have H3 := Lib.hid h3
    have G3 := Lib.hid (g2.trans g3)
    clear h2 h3 g2 g3 okA okB okC
    have q1 : ¬ pos < 1 := by omega
    have q2 : ¬ 1099511627776 < pos := by omega
    have q3 : IntKind.i64.wrap (D.ops + pos) = D.ops + pos := IntWalk.i64_in _ (by omega)
    rcases p3 with rfl | rfl
    all_goals
      go_enter Try.func9, Try.ntmps9
      go_wp2_with (first | refine wpl_store S rfl rfl rfl rfl rfl ?_ | refine wpl_store T rfl rfl rfl rfl rfl ?_)
      exact bodyPost_end (v := .tuple #[]) (by simp [results, Try.results9, go_sem]) rfl ⟨rfl, H3.out, G3.out⟩
end
end Go.Proofs.Ytdmgobffhpgjlaa.Pk
end
