/-
  For the walk of DiaryExact: a variable that holds an act; what is known behind k acts; both Opens; calls of the disks alone.
-/
import Derived.Test.YtdmgobffhpgjlaaGreatDxPair
import Derived.Test.YtdmgobffhpgjlaaGreatDxActs

namespace Go.Proofs.YtdmgobffhpgjlaaGreat.Sl.Dg
open Go.RowKit Go.PlainAid Go.Proofs.YtdmgobffhpgjlaaGreat.Cr
open Go.Proofs.YtdmgobffhpgjlaaGreat.Pk (Bs Fi Dk kl usedF Both HasD)
set_option linter.unusedVariables false
set_option maxRecDepth 20000
set_option linter.unusedSimpArgs false

/-! ### an act in a variable -/
def box (y : Ac) : Obj := .cells y.cells 41 (0, 0)
theorem act40 {kd : Int} {x : Sp} {v : Value} {a n m : Int} {s : ByteArray} (h : x.dig.length = 32) : (actV kd x v a n m s)[40]? = some (.int .i64 a) := by
  simp [actV, List.getElem?_append, slL_len h]
theorem act41 {kd : Int} {x : Sp} {v : Value} {a n m : Int} {s : ByteArray} (h : x.dig.length = 32) : (actV kd x v a n m s)[41]? = some (.int .i64 n) := by
  simp [actV, List.getElem?_append, slL_len h]
theorem act42 {kd : Int} {x : Sp} {v : Value} {a n m : Int} {s : ByteArray} (h : x.dig.length = 32) : (actV kd x v a n m s)[42]? = some (.int .i64 m) := by
  simp [actV, List.getElem?_append, slL_len h]
theorem act_one {y : Ac} : ∀ u ∈ y.cells.toList, u.oneCell' = true := by
  intro u hu
  simp only [Ac.cells, actV, Ac.v] at hu
  simp only [List.mem_append, List.mem_cons, List.not_mem_nil, or_false] at hu
  rcases hu with rfl | hu | rfl | rfl | rfl | rfl | rfl
  · rfl
  · exact slL_one _ u hu
  all_goals rfl
theorem zact : (#[.int .i64 0, .int .i64 0, .string ⟨#[]⟩, .string ⟨#[]⟩, .int .u8 0, .int .u8 0, .int .u8 0, .int .u8 0, .int .u8 0, .int .u8 0, .int .u8 0, .int .u8 0, .int .u8 0, .int .u8 0, .int .u8 0, .int .u8 0, .int .u8 0, .int .u8 0, .int .u8 0, .int .u8 0, .int .u8 0, .int .u8 0, .int .u8 0, .int .u8 0, .int .u8 0, .int .u8 0, .int .u8 0, .int .u8 0, .int .u8 0, .int .u8 0, .int .u8 0, .int .u8 0, .int .u8 0, .int .u8 0, .int .u8 0, .int .u8 0, .string ⟨#[]⟩, .int .i64 0, .int .i64 0, .slice none 0 0, .int .i64 0, .int .i64 0, .int .i64 0, .string ⟨#[]⟩] : Array Value) = actV 0 Sp.zero (.slice none 0 0) 0 0 0 ⟨#[]⟩ := by
  simp [actV, slL, dV, Sp.zero, zeros, none8, List.replicate]
section
variable {w : World} {B : Nat} {y : Ac}
theorem act_keep (w : World) (hy : y.Ok) :
    ∃ X, Stores Tryz.prog (w.alloc (.cells #[.int .i64 0, .int .i64 0, .string ⟨#[]⟩, .string ⟨#[]⟩, .int .u8 0, .int .u8 0, .int .u8 0, .int .u8 0, .int .u8 0, .int .u8 0, .int .u8 0, .int .u8 0, .int .u8 0, .int .u8 0, .int .u8 0, .int .u8 0, .int .u8 0, .int .u8 0, .int .u8 0, .int .u8 0, .int .u8 0, .int .u8 0, .int .u8 0, .int .u8 0, .int .u8 0, .int .u8 0, .int .u8 0, .int .u8 0, .int .u8 0, .int .u8 0, .int .u8 0, .int .u8 0, .int .u8 0, .int .u8 0, .int .u8 0, .int .u8 0, .string ⟨#[]⟩, .int .i64 0, .int .i64 0, .slice none 0 0, .int .i64 0, .int .i64 0, .int .i64 0, .string ⟨#[]⟩] 41)) 41 w.heap.size 0 y.cells X ∧ At X w.heap.size 41 y.cells ∧ Below w.heap.size w X ∧ X.heap.size = w.heap.size + 1 := by
  rw [zact]
  exact keep w (actV 0 Sp.zero (.slice none 0 0) 0 0 0 ⟨#[]⟩) y.cells 41 (by rw [cells_size hy]; kernel_rfl) (by rw [cells_size hy, act_size zeros_dig.len]) act_one
theorem box_loads (h : w.heap[B]? = some (box y)) (hy : y.Ok) : Loads Tryz.prog w 41 ⟨B, 0, none⟩ y.cells :=
  (At.mk h).loads (by kernel_rfl) (by rw [cells_size hy]; kernel_rfl)
theorem box_x (h : w.heap[B]? = some (box y)) (hy : y.Ok) : Loads Tryz.prog w 39 ⟨B, 1, none⟩ (slV y.x) := by
  have := loads_part (P := Tryz.prog) (ty := 39) (off := 1) (n := 38) h (by kernel_rfl) (by kernel_rfl) (by rw [cells_size hy]; decide)
  have e : y.cells.extract 1 (1 + 38) = slV y.x := by
    simp only [Ac.cells, actV, slV, List.extract_toArray]
    congr 1
    rw [List.extract_eq_take_drop, List.drop_left' (by rfl), Nat.add_sub_cancel_left, List.take_left' (by rw [slL_len hy.x.dig.len])]
  rw [e] at this
  exact this
theorem box_cell (h : w.heap[B]? = some (box y)) (hy : y.Ok) : w.cell? ⟨B, 0, none⟩ = some (.int .i64 y.kd) ∧ w.cell? ⟨B, 39, none⟩ = some y.v ∧ w.cell? ⟨B, 40, none⟩ = some (.int .i64 y.pos) ∧ w.cell? ⟨B, 41, none⟩ = some (.int .i64 y.n) ∧ w.cell? ⟨B, 42, none⟩ = some (.int .i64 y.m) ∧ w.cell? ⟨B, 43, none⟩ = some (.string y.s) := by
  have d := hy.x.dig.len
  have c := fun i => (At.mk h).cell i
  exact ⟨by rw [c 0]; rfl, by rw [c 39]; exact act39 d, by rw [c 40]; exact act40 d, by rw [c 41]; exact act41 d, by rw [c 42]; exact act42 d, by rw [c 43]; exact act43 d⟩
end

/-! ### behind k acts -/
section
variable {w0 w w' : World} {p u q r : Nat} {D E D' E' : Dk} {L M : Lg} {v lv uv : Value} {xs : List Sp} {X Z : List (Nat × Obj)} {k : Nat} {f : Nat} {args : Array Value} {R : Ending → Prop}
/-- the two logs, or neither: Z are their blocks and X -/
def Logs (w0 w : World) (p u : Nat) (lv uv : Value) (k : Nat) (Z X : List (Nat × Obj)) : Prop :=
  (lv = .pointer none ∧ uv = .pointer none ∧ Z = X) ∨ ∃ q r L v xs, lv = .pointer (some ⟨q, 0, none⟩) ∧ uv = .pointer (some ⟨r, 0, none⟩) ∧ Z = (q, dob p L) :: (r, rob u v L) :: X ∧ w0.heap.size ≤ q ∧ w0.heap.size ≤ r ∧ q ≠ r ∧ (∀ x ∈ X, x.1 ≠ q) ∧ (∀ x ∈ X, x.1 ≠ r) ∧ Lb L k ∧ RowS w0 w v L xs
theorem Logs.kp (h : Logs w0 w p u lv uv k Z X) (kp : Kp w w') : Logs w0 w' p u lv uv k Z X := by
  rcases h with h | ⟨q, r, L, v, xs, a, b, c, d, e, f, g, i, j, row⟩
  · exact .inl h
  · exact .inr ⟨q, r, L, v, xs, a, b, c, d, e, f, g, i, j, row.kp kp⟩
theorem Logs.sub (h : Logs w0 w p u lv uv k Z X) : ∀ x ∈ X, x ∈ Z := by
  rcases h with ⟨_, _, rfl⟩ | ⟨q, r, L, v, xs, a, b, rfl, _⟩
  · exact fun x hx => hx
  · exact fun x hx => List.mem_cons_of_mem _ (List.mem_cons_of_mem _ hx)
/-- behind k acts -/
def St (w0 w : World) (p u : Nat) (lv uv : Value) (k : Nat) (X : List (Nat × Obj)) : Prop := ∃ D Z, Bd D k ∧ Both w0 w p u D D Z ∧ Logs w0 w p u lv uv k Z X
/-- behind the first switch of an act -/
def Sm (w0 w : World) (p u : Nat) (lv uv : Value) (k : Nat) (X : List (Nat × Obj)) : Prop := ∃ D, Bm D k ∧ ((lv = .pointer none ∧ uv = .pointer none ∧ Both w0 w p u D D X) ∨ ∃ q r L v xs, lv = .pointer (some ⟨q, 0, none⟩) ∧ uv = .pointer (some ⟨r, 0, none⟩) ∧ Lb L k ∧ Pr w0 w p u D D q r L L v xs X)
theorem st_nil (b : Bd D k) (h : Both w0 w p u D D X) : St w0 w p u (.pointer none) (.pointer none) k X := ⟨D, X, b, h, .inl ⟨rfl, rfl, rfl⟩⟩
theorem st_log (b : Bd D k) (l : Lb L k) (h : Pr w0 w p u D D q r L L v xs X) : St w0 w p u (.pointer (some ⟨q, 0, none⟩)) (.pointer (some ⟨r, 0, none⟩)) k X := ⟨D, _, b, h.d, .inr ⟨q, r, L, v, xs, rfl, rfl, rfl, h.hq, h.hr, h.ne, h.xq, h.xr, l, h.row⟩⟩
theorem St.below (h : St w0 w p u lv uv k X) : Below w0.heap.size w0 w := by
  obtain ⟨D, Z, _, hB, _⟩ := h
  exact hB.below
theorem sm_nil (b : Bm D k) (h : Both w0 w p u D D X) : Sm w0 w p u (.pointer none) (.pointer none) k X := ⟨D, b, .inl ⟨rfl, rfl, h⟩⟩
theorem sm_log (b : Bm D k) (l : Lb L k) (h : Pr w0 w p u D D q r L L v xs X) : Sm w0 w p u (.pointer (some ⟨q, 0, none⟩)) (.pointer (some ⟨r, 0, none⟩)) k X := ⟨D, b, .inr ⟨q, r, L, v, xs, rfl, rfl, l, h⟩⟩
theorem sm_of (b : Bm D k) (h : Both w0 w p u D D Z) (lg : Logs w0 w p u lv uv k Z X) : Sm w0 w p u lv uv k X := by
  rcases lg with ⟨rfl, rfl, rfl⟩ | ⟨q, r, L, v, xs, rfl, rfl, rfl, c, d, e, f, g, i, row⟩
  · exact sm_nil b h
  · exact sm_log b i ⟨h, c, d, e, f, g, row⟩
/-- a block that is made now -/
theorem Logs.more (h : Logs w0 w p u lv uv k Z X) (hb : Below w.heap.size w w') {b : Nat} {o : Obj} (hn : w.heap.size ≤ b) (hB : Both w0 w p u D D Z) (ho : w'.heap[b]? = some o) : ∃ Z', Logs w0 w' p u lv uv k Z' ((b, o) :: X) ∧ Both w0 w' p u D D Z' := by
  have hm := hB.more hb hn ho
  have far : ∀ x ∈ Z, x.1 ≠ b := fun x hx e => by
    have := Pk.in_heap (hB.at (b := x.1) (o := x.2) hx)
    omega
  rcases h with ⟨rfl, rfl, rfl⟩ | ⟨q, r, L, v, xs, rfl, rfl, rfl, c, d, e, f, g, i, row⟩
  · exact ⟨_, .inl ⟨rfl, rfl, rfl⟩, hm⟩
  · refine ⟨_, .inr ⟨q, r, L, v, xs, rfl, rfl, rfl, c, d, e, fun x hx => ?_, fun x hx => ?_, i, row.kp (Kp.of_below hb)⟩, Both.less hm fun x hx => ?_⟩
    · rcases List.mem_cons.1 hx with rfl | hx
      · exact (far (q, dob p L) (List.mem_cons_self ..)).symm
      · exact f x hx
    · rcases List.mem_cons.1 hx with rfl | hx
      · exact (far (r, rob u v L) (List.mem_cons_of_mem _ (List.mem_cons_self ..))).symm
      · exact g x hx
    · simp only [List.mem_cons] at hx ⊢
      rcases hx with c | c | c | c
      · exact .inr (.inl c)
      · exact .inr (.inr (.inl c))
      · exact .inl c
      · exact .inr (.inr (.inr c))

/-! ### calls of the disks alone: slips stay -/
theorem Both.slips (h : Both w0 w p u D E X) : Both w0 w p u D E (slipX w ++ X) := by
  obtain ⟨m, G, v, a, mo, hd, hr, h1, h2, h3, hX⟩ := h.is
  refine ⟨⟨m, G, v, a, mo, hd, hr, h1, h2, h3, fun x hx => ?_⟩, h.below⟩
  rcases List.mem_append.1 hx with hx | hx
  · obtain ⟨c, fr, e, hb⟩ := mem_slipX.1 hx
    refine ⟨hb, ?_, ?_⟩
    · rw [e] at hb
      exact zone_type hd hb (by decide) (by decide) (by decide)
    · rw [e] at hb
      exact rzone_type hr hb (by decide) (by decide)
  · exact hX x hx
theorem Both.frame (h : Both w0 w p u D E X) (c : ∀ X, Both w0 w p u D E X → Calls Tryz.prog f args w fun e w' => R e ∧ Both w0 w' p u D' E' X) : Calls Tryz.prog f args w fun e w' => R e ∧ Both w0 w' p u D' E' X ∧ Kp w w' :=
  (c _ (Both.slips h)).mono fun e w' ⟨r, h'⟩ => ⟨r, Both.less h' fun x hx => List.mem_append_right _ hx, ⟨fun b c fr hb => by
    have : ((b, .cells c 39 fr) : Nat × Obj) ∈ slipX w ++ X := List.mem_append_left _ (mem_slipX.2 ⟨c, fr, rfl, hb⟩)
    rw [h'.at this, hb]⟩⟩

/-! ### both Opens -/
def lgR (D : Dk) (xs : List Sp) (n : Nat) : Lg := ⟨(xs.length : Int), (n : Int), (xs.length : Int), decide (n < (load D).1.length)⟩
theorem p_open_no (h : Both w0 w p u D E X) (ho : D.ops + 5 ≤ 1099511627776) (c : (load D).2.1 ≠ 0) :
    Calls Tryz.prog 7 #[.pointer (some ⟨p, 0, none⟩)] w fun e w' => e = .returned (.tuple #[.pointer none, .slice none 0 0, .int .i64 (load D).2.1]) ∧ Both w0 w' p u (load D).2.2 E X :=
  (p_open h ho).mono fun e w' P => by
    rcases P with ⟨_, a, b⟩ | ⟨a, _⟩
    · exact ⟨a, b⟩
    · exact absurd a c
theorem p_open_yes (h : Both w0 w p u D E X) (ho : D.ops + 5 ≤ 1099511627776) (c : (load D).2.1 = 0) :
    Calls Tryz.prog 7 #[.pointer (some ⟨p, 0, none⟩)] w fun e w' => ∃ (q : Nat) (g : Option Addr) (cp : Nat) (xs : List Sp) (n : Nat), e = .returned (.tuple #[.pointer (some ⟨q, 0, none⟩), .slice g xs.length cp, .int .i64 0]) ∧ Reads (nb (load D).1) xs n ∧ RowS w0 w' (.slice g xs.length cp) (lgR D xs n) xs ∧
      Both w0 w' p u (load D).2.2 E ((q, dob p (lgR D xs n)) :: X) ∧ w0.heap.size ≤ q ∧ ∀ x ∈ X, x.1 ≠ q :=
  (p_open h ho).mono fun e w' P => by
    rcases P with ⟨a, _⟩ | ⟨_, q, v, xs, n, a, rd, row, hB, hq, hx⟩
    · exact absurd c a
    · obtain ⟨g, cp, rfl⟩ := row.form
      exact ⟨q, g, cp, xs, n, a, rd, row, hB, hq, hx⟩
theorem r_open_no (h : Both w0 w p u E D X) (pw : D.Pw) (ho : D.ops + 5 ≤ 1099511627776) (hu : usedF D.L ≤ 1000000) (c : (load D).2.1 ≠ 0) :
    Calls Tryz.prog 8 #[.pointer (some ⟨u, 0, none⟩)] w fun e w' => e = .returned (.tuple #[.pointer none, .int .i64 (load D).2.1]) ∧ Both w0 w' p u E (load D).2.2 X :=
  (r_open h pw ho hu).mono fun e w' ⟨P, _⟩ => by
    rcases P with ⟨_, a, b⟩ | ⟨a, _⟩
    · exact ⟨a, b⟩
    · exact absurd a c
theorem r_open_yes {n : Nat} (h : Both w0 w p u (load D).2.2 D ((q, dob p (lgR D xs n)) :: X)) (pw : D.Pw) (ho : D.ops + 5 ≤ 1099511627776) (hu : usedF D.L ≤ 1000000) (c : (load D).2.1 = 0) (rd : Reads (nb (load D).1) xs n) (hq : w0.heap.size ≤ q) (hx : ∀ x ∈ X, x.1 ≠ q) :
    Calls Tryz.prog 8 #[.pointer (some ⟨u, 0, none⟩)] w fun e w' => ∃ (r : Nat) (g : Option Addr) (cp : Nat), e = .returned (.tuple #[.pointer (some ⟨r, 0, none⟩), .int .i64 0]) ∧ Pr w0 w' p u (load D).2.2 (load D).2.2 q r (lgR D xs n) (lgR D xs n) (.slice g xs.length cp) xs X ∧ Kp w w' :=
  (r_open h pw ho hu).mono fun e w' ⟨P, kp⟩ => by
    rcases P with ⟨a, _⟩ | ⟨_, r, v, ys, m, a, rd2, row, hB, hr, hx2⟩
    · exact absurd c a
    · obtain ⟨rfl, rfl⟩ := reads_one rd rd2
      obtain ⟨g, cp, rfl⟩ := row.form
      exact ⟨r, g, cp, a, ⟨Both.less hB fun x hx => by
        simp only [List.mem_cons] at hx ⊢
        rcases hx with c | c | c
        · exact .inr (.inl c)
        · exact .inl c
        · exact .inr (.inr c), hq, hr, hx2 (q, dob p (lgR D xs n)) (List.mem_cons_self ..), hx, fun x h => hx2 x (List.mem_cons_of_mem _ h), row⟩, kp⟩
end
theorem new_clamp (room : Int) : Dk.new room = Dk.new (min (max room 0) 4194304) := by
  unfold Dk.new
  congr 1
  omega
theorem new_opens (room : Int) : (load (Dk.new room)).2.1 = 0 ∧ (load (Dk.new room)).1 = [] := by
  rw [new_clamp]
  obtain ⟨E, h, _⟩ := new_load (room := min (max room 0) 4194304) (by omega)
  rw [h]
  exact ⟨rfl, rfl⟩
theorem reads_none {xs : List Sp} {n : Nat} (h : Reads (nb []) xs n) : xs = [] ∧ n = 0 := by
  obtain ⟨h1, h2⟩ := reads_le h
  simp only [nb, List.map_nil, List.length_nil] at h1
  have : xs.length = 0 := by omega
  exact ⟨List.eq_nil_of_length_eq_zero this, by omega⟩
end Go.Proofs.YtdmgobffhpgjlaaGreat.Sl.Dg
