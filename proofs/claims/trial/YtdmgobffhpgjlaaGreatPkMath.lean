/-
  The disk as the document tells it: its files by rising names, and what each call makes of it. No program text.
-/
import Derived.Sort.KeysCollected
import Derived.Test.YtdmgobffhpgjlaaGreatProg

namespace Go.Proofs.YtdmgobffhpgjlaaGreat.Pk
set_option linter.unusedVariables false
set_option maxRecDepth 20000
set_option linter.unusedSimpArgs false

abbrev Bs := List UInt8
/-- a file: its name, its bytes, how many of them are safe -/
structure Fi where
  nm : Bs
  bs : Bs
  sf : Nat

/-! ### lists of files -/
def insF (f : Fi) : List Fi → List Fi
  | [] => [f]
  | y :: r => if bytesBefore f.nm y.nm then f :: y :: r else y :: insF f r
def getF (k : Bs) (l : List Fi) : Option Fi := l.find? fun x => x.nm == k
def delF (k : Bs) (l : List Fi) : List Fi := l.filter fun x => !(x.nm == k)
def updF (k : Bs) (g : Fi) (l : List Fi) : List Fi := l.map fun x => if x.nm == k then g else x
def usedF : List Fi → Nat
  | [] => 0
  | x :: r => x.bs.length + usedF r
def Up (l : List Fi) : Prop := l.Pairwise fun x y => bytesBefore x.nm y.nm = true

theorem mem_ins {f x : Fi} : ∀ {l : List Fi}, x ∈ insF f l ↔ x = f ∨ x ∈ l
  | [] => by simp [insF]
  | y :: r => by
    unfold insF
    split
    · simp
    · simp only [List.mem_cons, mem_ins (l := r)]
      constructor
      · rintro (h | h | h)
        · exact .inr (.inl h)
        · exact .inl h
        · exact .inr (.inr h)
      · rintro (h | h | h)
        · exact .inr (.inl h)
        · exact .inl h
        · exact .inr (.inr h)
theorem mem_del {k : Bs} {x : Fi} {l : List Fi} : x ∈ delF k l ↔ x ∈ l ∧ x.nm ≠ k := by simp [delF]
theorem mem_upd {k : Bs} {g x : Fi} {l : List Fi} : x ∈ updF k g l ↔ (x = g ∧ ∃ y ∈ l, y.nm = k) ∨ (x ∈ l ∧ x.nm ≠ k) := by
  unfold updF
  rw [List.mem_map]
  constructor
  · rintro ⟨y, hy, e⟩
    by_cases h : y.nm = k
    · rw [if_pos (by simpa using h)] at e
      exact .inl ⟨e.symm, y, hy, h⟩
    · rw [if_neg (by simpa using h)] at e
      exact .inr ⟨e ▸ hy, e ▸ h⟩
  · rintro (⟨rfl, y, hy, h⟩ | ⟨hx, h⟩)
    · exact ⟨y, hy, by rw [if_pos (by simpa using h)]⟩
    · exact ⟨x, hx, by rw [if_neg (by simpa using h)]⟩
theorem get_some {k : Bs} {l : List Fi} {f : Fi} (h : getF k l = some f) : f ∈ l ∧ f.nm = k := ⟨List.mem_of_find?_eq_some h, by simpa using List.find?_some h⟩
theorem get_none {k : Bs} {l : List Fi} (h : getF k l = none) : ∀ f ∈ l, f.nm ≠ k := by
  intro f hf e
  have := List.find?_eq_none.1 h f hf
  simp [e] at this
theorem Up.ne {l : List Fi} (h : Up l) : l.Pairwise fun x y => x.nm ≠ y.nm := h.imp fun {x y} hxy e => by
  rw [e, WideAt.bytes_irrefl] at hxy
  cases hxy
theorem uniq {l : List Fi} (h : l.Pairwise fun x y => x.nm ≠ y.nm) : ∀ {x y : Fi}, x ∈ l → y ∈ l → x.nm = y.nm → x = y := by
  induction l with
  | nil => intro x y hx; simp at hx
  | cons a r ih =>
    obtain ⟨h1, h2⟩ := List.pairwise_cons.1 h
    intro x y hx hy e
    rcases List.mem_cons.1 hx with rfl | hx
    · rcases List.mem_cons.1 hy with rfl | hy
      · rfl
      · exact absurd e (h1 y hy)
    · rcases List.mem_cons.1 hy with ey | hy
      · exact absurd (ey ▸ e).symm (h1 x hx)
      · exact ih h2 hx hy e
theorem Up.uniq {l : List Fi} (h : Up l) {x y : Fi} (hx : x ∈ l) (hy : y ∈ l) (e : x.nm = y.nm) : x = y := Pk.uniq h.ne hx hy e
theorem get_mem {l : List Fi} (h : Up l) {f : Fi} (hf : f ∈ l) : getF f.nm l = some f := by
  cases hg : getF f.nm l with
  | none => exact absurd rfl (get_none hg f hf)
  | some x =>
    obtain ⟨h1, h2⟩ := get_some hg
    rw [h.uniq h1 hf h2]
theorem Up.del {l : List Fi} (h : Up l) (k : Bs) : Up (delF k l) := List.Pairwise.filter _ h
theorem Up.ins {f : Fi} : ∀ {l : List Fi}, Up l → (∀ x ∈ l, x.nm ≠ f.nm) → Up (insF f l)
  | [], _, _ => by simp [insF, Up]
  | y :: r, h, hne => by
    obtain ⟨h1, h2⟩ := List.pairwise_cons.1 h
    unfold insF
    split
    · rename_i hb
      refine List.pairwise_cons.2 ⟨fun q hq => ?_, h⟩
      rcases List.mem_cons.1 hq with rfl | hq
      · exact hb
      · exact WideShapes.bytes_trans _ _ _ hb (h1 q hq)
    · rename_i hb
      have hyx : bytesBefore y.nm f.nm = true := by
        rcases WideAt.bytes_total _ _ (hne y (by simp)) with h' | h'
        · exact h'
        · exact absurd h' hb
      refine List.pairwise_cons.2 ⟨fun q hq => ?_, Up.ins h2 fun x hx => hne x (by simp [hx])⟩
      rcases mem_ins.1 hq with rfl | hq
      · exact hyx
      · exact h1 q hq
theorem Up.upd {l : List Fi} (h : Up l) {k : Bs} {g : Fi} (hg : g.nm = k) : Up (updF k g l) := by
  refine List.pairwise_map.2 (h.imp fun {x y} hxy => ?_)
  have e : ∀ z : Fi, (if z.nm == k then g else z).nm = z.nm := by
    intro z
    by_cases hz : z.nm = k
    · rw [if_pos (by simpa using hz), hg, hz]
    · rw [if_neg (by simpa using hz)]
  rw [e, e]
  exact hxy
theorem used_ins (f : Fi) : ∀ l : List Fi, usedF (insF f l) = f.bs.length + usedF l
  | [] => rfl
  | y :: r => by
    unfold insF
    split
    · rfl
    · simp [usedF, used_ins f r]; omega
theorem len_ins (f : Fi) : ∀ l : List Fi, (insF f l).length = l.length + 1
  | [] => rfl
  | y :: r => by
    unfold insF
    split
    · rfl
    · simp [len_ins f r]
theorem del_none {k : Bs} : ∀ {l : List Fi}, (∀ f ∈ l, f.nm ≠ k) → delF k l = l := fun {l} h => List.filter_eq_self.2 fun x hx => by simpa using h x hx
theorem used_del {l : List Fi} (h : l.Pairwise fun x y => x.nm ≠ y.nm) {f : Fi} (hf : f ∈ l) : usedF (delF f.nm l) + f.bs.length = usedF l := by
  induction l with
  | nil => simp at hf
  | cons a r ih =>
    obtain ⟨h1, h2⟩ := List.pairwise_cons.1 h
    rcases List.mem_cons.1 hf with rfl | hf
    · have : delF f.nm (f :: r) = r := by
        have := del_none (k := f.nm) (l := r) fun x hx => (h1 x hx).symm
        simp only [delF, List.filter_cons, beq_self_eq_true, Bool.not_true, Bool.false_eq_true, if_false] at this ⊢
        exact this
      rw [this]
      simp [usedF]; omega
    · have : delF f.nm (a :: r) = a :: delF f.nm r := by
        simp only [delF, List.filter_cons]
        rw [if_pos (by simpa using h1 f hf)]
      rw [this]
      have := ih h2 hf
      simp [usedF]; omega
theorem len_del {l : List Fi} (h : l.Pairwise fun x y => x.nm ≠ y.nm) {f : Fi} (hf : f ∈ l) : (delF f.nm l).length + 1 = l.length := by
  induction l with
  | nil => simp at hf
  | cons a r ih =>
    obtain ⟨h1, h2⟩ := List.pairwise_cons.1 h
    rcases List.mem_cons.1 hf with rfl | hf
    · have : delF f.nm (f :: r) = r := by
        have := del_none (k := f.nm) (l := r) fun x hx => (h1 x hx).symm
        simp only [delF, List.filter_cons, beq_self_eq_true, Bool.not_true, Bool.false_eq_true, if_false] at this ⊢
        exact this
      rw [this]
      simp
    · have : delF f.nm (a :: r) = a :: delF f.nm r := by
        simp only [delF, List.filter_cons]
        rw [if_pos (by simpa using h1 f hf)]
      rw [this]
      have := ih h2 hf
      simp; omega
theorem len_upd (k : Bs) (g : Fi) (l : List Fi) : (updF k g l).length = l.length := by simp [updF]
theorem upd_none {k : Bs} {g : Fi} {l : List Fi} (h : ∀ f ∈ l, f.nm ≠ k) : updF k g l = l := by
  unfold updF
  conv => rhs; rw [← List.map_id l]
  refine List.map_congr_left fun x hx => ?_
  rw [if_neg (by simpa using h x hx)]
  rfl
theorem used_upd {l : List Fi} (h : l.Pairwise fun x y => x.nm ≠ y.nm) {f : Fi} (hf : f ∈ l) (g : Fi) : usedF (updF f.nm g l) + f.bs.length = usedF l + g.bs.length := by
  induction l with
  | nil => simp at hf
  | cons a r ih =>
    obtain ⟨h1, h2⟩ := List.pairwise_cons.1 h
    rcases List.mem_cons.1 hf with rfl | hf
    · have : updF f.nm g (f :: r) = g :: r := by
        have := upd_none (k := f.nm) (g := g) (l := r) fun x hx => (h1 x hx).symm
        simp only [updF, List.map_cons, beq_self_eq_true, if_true] at this ⊢
        rw [this]
      rw [this]
      simp [usedF]; omega
    · have : updF f.nm g (a :: r) = a :: updF f.nm g r := by
        simp only [updF, List.map_cons]
        rw [if_neg (by simpa using h1 f hf)]
      rw [this]
      have := ih h2 hf
      simp [usedF]; omega
theorem mem_used {l : List Fi} {f : Fi} (hf : f ∈ l) : f.bs.length ≤ usedF l := by
  induction l with
  | nil => simp at hf
  | cons a r ih =>
    rcases List.mem_cons.1 hf with rfl | hf
    · simp [usedF]
    · have := ih hf
      simp [usedF]; omega

/-! ### the disk -/
structure Dk where
  room : Int
  ops : Int
  off : Bool
  kd : Int
  fa : Int
  fm : Int
  L : List Fi
def isName (s : Bs) : Bool := decide (1 ≤ s.length ∧ s.length ≤ 80)
structure Dk.Ok (D : Dk) : Prop where
  room0 : 0 ≤ D.room
  room1 : D.room ≤ 4194304
  ops0 : 0 ≤ D.ops
  kd : D.kd = 0 ∨ D.kd = 1 ∨ D.kd = 2
  fa0 : 0 ≤ D.fa
  fa1 : D.fa ≤ 2199023255552
  fm0 : 0 ≤ D.fm
  fm1 : D.fm ≤ 9223372036854775807
  up : Up D.L
  names : ∀ f ∈ D.L, isName f.nm = true
  safe : ∀ f ∈ D.L, f.sf ≤ f.bs.length
  used : (usedF D.L : Int) ≤ D.room
  cnt : D.L.length ≤ 200
def Dk.new (room : Int) : Dk := ⟨min (max room 0) 4194304, 0, false, 0, 0, 0, []⟩
def Dk.offd (D : Dk) : Dk := { D with off := true, kd := 0, fa := 0, fm := 0 }
def Dk.fail (D : Dk) : Int × Dk :=
  if D.kd = 0 ∨ D.ops - D.fa < 0 ∨ D.fm < D.ops - D.fa then (0, D) else if D.kd = 1 then (11, D) else (12, D.offd)
def Dk.beg (D : Dk) (good : Bool) : Int × Dk :=
  if good = false then (1, D) else if D.off = true then (12, D) else { D with ops := D.ops + 1 }.fail
def Dk.create (D : Dk) (nm : Bs) : Int × Dk :=
  let r := D.beg (isName nm)
  if r.1 ≠ 0 then r else
  if (getF nm r.2.L).isSome then (9, r.2) else
  if 200 ≤ r.2.L.length then (6, r.2) else (0, { r.2 with L := insF ⟨nm, [], 0⟩ r.2.L })
def Dk.append (D : Dk) (nm s : Bs) : Int × Dk :=
  let r := D.beg (isName nm)
  if r.1 ≠ 0 then r else
  match getF nm r.2.L with
  | none => (7, r.2)
  | some f => if r.2.room < (usedF r.2.L : Int) + (s.length : Int) then (6, r.2) else (0, { r.2 with L := updF nm ⟨nm, f.bs ++ s, f.sf⟩ r.2.L })
def Dk.read (D : Dk) (nm : Bs) (pos n : Int) : Bs × Int × Dk :=
  let r := D.beg (isName nm && decide (0 ≤ pos) && decide (0 ≤ n))
  if r.1 ≠ 0 then ([], r) else
  match getF nm r.2.L with
  | none => ([], 7, r.2)
  | some f => if (f.bs.length : Int) < pos then ([], 14, r.2) else ((f.bs.drop pos.toNat).take n.toNat, 0, r.2)
def Dk.sync (D : Dk) (nm : Bs) : Int × Dk :=
  let r := D.beg (isName nm)
  if r.1 ≠ 0 then r else
  match getF nm r.2.L with
  | none => (7, r.2)
  | some f => (0, { r.2 with L := updF nm ⟨nm, f.bs, f.bs.length⟩ r.2.L })
def Dk.rename (D : Dk) (nm to : Bs) : Int × Dk :=
  let r := D.beg (isName nm && isName to)
  if r.1 ≠ 0 then r else
  match getF nm r.2.L with
  | none => (7, r.2)
  | some f => (0, { r.2 with L := insF ⟨to, f.bs, f.sf⟩ (delF to (delF nm r.2.L)) })
def Dk.delete (D : Dk) (nm : Bs) : Int × Dk :=
  let r := D.beg (isName nm)
  if r.1 ≠ 0 then r else
  match getF nm r.2.L with
  | none => (7, r.2)
  | some _ => (0, { r.2 with L := delF nm r.2.L })
def Dk.arm (D : Dk) (pos kind more : Int) : Dk :=
  if pos < 1 ∨ 1099511627776 < pos ∨ (kind ≠ 1 ∧ kind ≠ 2) then { D with kd := 0, fa := 0, fm := 0 } else { D with kd := kind, fa := D.ops + pos, fm := max more 0 }
/-- files behind a new start: keeps' numbers are taken one by one by those that have unsafe bytes -/
def onL : List Int → List Fi → List Fi
  | _, [] => []
  | ks, f :: r => if f.sf = f.bs.length then f :: onL ks r else
    match ks with
    | [] => ⟨f.nm, f.bs.take f.sf, f.sf⟩ :: onL [] r
    | k :: ks' => ⟨f.nm, f.bs.take (f.sf + (max k 0).toNat % (f.bs.length - f.sf + 1)), f.sf + (max k 0).toNat % (f.bs.length - f.sf + 1)⟩ :: onL ks' r
def Dk.on (D : Dk) (ks : List Int) : Dk := if D.off = true then { D with off := false, L := onL ks D.L } else D
def Dk.flip (D : Dk) (nm : Bs) (pos : Int) (b : UInt8) : Bool × Dk :=
  match getF nm D.L with
  | none => (false, D)
  | some f => if pos < 0 ∨ (f.bs.length : Int) ≤ pos ∨ b = 0 then (false, D) else (true, { D with L := updF nm ⟨nm, f.bs.set pos.toNat (f.bs.getD pos.toNat 0 ^^^ b), f.sf⟩ D.L })
def Dk.size (D : Dk) (nm : Bs) : Int := match getF nm D.L with | none => -1 | some f => (f.bs.length : Int)
def Dk.safe (D : Dk) (nm : Bs) : Int := match getF nm D.L with | none => 0 | some f => (f.sf : Int)
def Dk.bytes (D : Dk) (nm : Bs) : Bs := match getF nm D.L with | none => [] | some f => f.bs

/-! ### what is kept -/
section
variable {D : Dk}
theorem Dk.Ok.new (room : Int) : (Dk.new room).Ok := by
  constructor <;> simp [Dk.new, Up, usedF] <;> omega
theorem Dk.Ok.offd (h : D.Ok) : D.offd.Ok := ⟨h.room0, h.room1, h.ops0, .inl rfl, by simp [Dk.offd], by simp [Dk.offd], by simp [Dk.offd], by simp [Dk.offd], h.up, h.names, h.safe, h.used, h.cnt⟩
theorem Dk.Ok.count (h : D.Ok) : { D with ops := D.ops + 1 }.Ok := by
  have h0 := h.ops0
  exact ⟨h.room0, h.room1, by simp; omega, h.kd, h.fa0, h.fa1, h.fm0, h.fm1, h.up, h.names, h.safe, h.used, h.cnt⟩
theorem Dk.Ok.fail (h : D.Ok) : D.fail.2.Ok := by
  unfold Dk.fail
  split
  · exact h
  · split
    · exact h
    · exact h.offd
theorem Dk.Ok.beg (h : D.Ok) (g : Bool) : (D.beg g).2.Ok := by
  unfold Dk.beg
  split
  · exact h
  · split
    · exact h
    · exact h.count.fail
/-- the power goes once: the fault isn't behind us -/
def Dk.Pw (D : Dk) : Prop := D.kd = 2 → D.ops < D.fa
theorem Dk.Pw.beg (h : D.Pw) (ok : D.Ok) (g : Bool) : (D.beg g).2.Pw := by
  have hk := ok.kd
  have hm := ok.fm0
  unfold Dk.Pw at h
  unfold Dk.beg
  split
  · exact h
  · split
    · exact h
    · unfold Dk.fail Dk.Pw
      simp only
      split
      · simp only; omega
      · split
        · simp only; omega
        · simp [Dk.offd]
theorem fail_L (D : Dk) : D.fail.2.L = D.L ∧ D.fail.2.room = D.room ∧ D.fail.2.ops = D.ops := by
  unfold Dk.fail
  split
  · exact ⟨rfl, rfl, rfl⟩
  · split <;> exact ⟨rfl, rfl, rfl⟩
theorem beg_L (D : Dk) (g : Bool) : (D.beg g).2.L = D.L ∧ (D.beg g).2.room = D.room ∧ (D.beg g).2.ops ≤ D.ops + 1 ∧ D.ops ≤ (D.beg g).2.ops := by
  unfold Dk.beg
  split
  · exact ⟨rfl, rfl, by simp; omega, by simp⟩
  · split
    · exact ⟨rfl, rfl, by simp; omega, by simp⟩
    · obtain ⟨h1, h2, h3⟩ := fail_L { D with ops := D.ops + 1 }
      rw [h1, h2, h3]
      exact ⟨rfl, rfl, by simp, by simp; omega⟩
theorem Dk.Ok.setL (h : D.Ok) {l : List Fi} (up : Up l) (names : ∀ f ∈ l, isName f.nm = true) (safe : ∀ f ∈ l, f.sf ≤ f.bs.length) (used : (usedF l : Int) ≤ D.room) (cnt : l.length ≤ 200) : { D with L := l }.Ok :=
  ⟨h.room0, h.room1, h.ops0, h.kd, h.fa0, h.fa1, h.fm0, h.fm1, up, names, safe, used, cnt⟩
/-- a file is another one of the same name -/
theorem Dk.Ok.upd (h : D.Ok) {f : Fi} (hf : f ∈ D.L) {g : Fi} (hn : g.nm = f.nm) (hs : g.sf ≤ g.bs.length) (hu : (usedF D.L : Int) + g.bs.length ≤ D.room + f.bs.length) : { D with L := updF f.nm g D.L }.Ok := by
  refine h.setL (h.up.upd hn) ?_ ?_ ?_ (by rw [len_upd]; exact h.cnt)
  · intro x hx
    rcases mem_upd.1 hx with ⟨rfl, _⟩ | ⟨hx, _⟩
    · rw [hn]; exact h.names f hf
    · exact h.names x hx
  · intro x hx
    rcases mem_upd.1 hx with ⟨rfl, _⟩ | ⟨hx, _⟩
    · exact hs
    · exact h.safe x hx
  · have := used_upd h.up.ne hf g
    omega
theorem Dk.Ok.del (h : D.Ok) (k : Bs) : { D with L := delF k D.L }.Ok := by
  refine h.setL (h.up.del k) (fun f hf => h.names f (mem_del.1 hf).1) (fun f hf => h.safe f (mem_del.1 hf).1) ?_ ?_
  · have := h.used
    cases hg : getF k D.L with
    | none => rw [del_none (get_none hg)]; exact this
    | some f =>
      obtain ⟨h1, rfl⟩ := get_some hg
      have := used_del h.up.ne h1
      omega
  · exact Nat.le_trans (List.length_filter_le _ _) h.cnt
theorem Dk.Ok.ins (h : D.Ok) {f : Fi} (hn : isName f.nm = true) (hs : f.sf ≤ f.bs.length) (hno : ∀ x ∈ D.L, x.nm ≠ f.nm) (hu : (usedF D.L : Int) + f.bs.length ≤ D.room) (hc : D.L.length < 200) : { D with L := insF f D.L }.Ok := by
  refine h.setL (h.up.ins hno) ?_ ?_ ?_ (by rw [len_ins]; omega)
  · intro x hx
    rcases mem_ins.1 hx with rfl | hx
    · exact hn
    · exact h.names x hx
  · intro x hx
    rcases mem_ins.1 hx with rfl | hx
    · exact hs
    · exact h.safe x hx
  · rw [used_ins]; omega
theorem Dk.Ok.arm (h : D.Ok) (ho : D.ops ≤ 1099511627776) (pos kind more : Int) (hm : more ≤ 9223372036854775807) : (D.arm pos kind more).Ok := by
  unfold Dk.arm
  have h0 := h.ops0
  split
  · exact ⟨h.room0, h.room1, h.ops0, .inl rfl, by simp, by simp, by simp, by simp, h.up, h.names, h.safe, h.used, h.cnt⟩
  · rename_i c
    exact ⟨h.room0, h.room1, h.ops0, by simp; omega, by simp; omega, by simp; omega, by simp; omega, by simp; omega, h.up, h.names, h.safe, h.used, h.cnt⟩
end
end Go.Proofs.YtdmgobffhpgjlaaGreat.Pk
