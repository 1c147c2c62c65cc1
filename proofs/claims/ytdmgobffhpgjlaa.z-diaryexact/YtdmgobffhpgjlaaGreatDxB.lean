/-
  Two disks beside each other, each with its log, or neither: the calls of both logs, told of such a pair.
  A row of acts of the log among a law's arguments.
  For the walk of DiaryExact: a variable that holds an act; what is known behind k acts; both Opens; calls of the disks alone.
-/
import Derived.Test.YtdmgobffhpgjlaaGreatDxOpen
import Derived.Test.YtdmgobffhpgjlaaGreatDxRew
import Derived.Test.YtdmgobffhpgjlaaGreatDxA
import Derived.Test.YtdmgobffhpgjlaaGreatDgE
section
namespace Go.Proofs.YtdmgobffhpgjlaaGreat.Sl.Dg
open Go.RowKit Go.PlainAid Go.Proofs.YtdmgobffhpgjlaaGreat.Cr
open Go.Proofs.YtdmgobffhpgjlaaGreat.Pk (Bs Fi Dk kl usedF Both HasD DiskAt RefAt zone rzone KeepAt)
set_option linter.unusedVariables false
set_option maxRecDepth 20000
set_option linter.unusedSimpArgs false

/-- the blocks of a zone -/
noncomputable def blocksOf (w : World) (Z : Nat → Prop) : List (Nat × Obj) := (List.range w.heap.size).filterMap fun b => @ite _ (Z b) (Classical.propDecidable _) (w.heap[b]?.map fun o => (b, o)) none
theorem mem_blocks {w : World} {Z : Nat → Prop} {x : Nat × Obj} : x ∈ blocksOf w Z ↔ Z x.1 ∧ w.heap[x.1]? = some x.2 := by
  unfold blocksOf
  rw [List.mem_filterMap]
  constructor
  · rintro ⟨b, _, hb⟩
    split at hb
    · rename_i c
      cases ho : w.heap[b]? with
      | none => rw [ho] at hb; cases hb
      | some o =>
        rw [ho] at hb
        simp only [Option.map_some] at hb
        obtain rfl := Option.some.inj hb
        exact ⟨c, ho⟩
    · cases hb
  · rintro ⟨c, ho⟩
    refine ⟨x.1, by simpa using Pk.in_heap ho, ?_⟩
    rw [if_pos c, ho]
    rfl
section
variable {w0 w w' : World} {p u q r : Nat} {D E D' E' : Dk} {L M L' M' : Lg} {v : Value} {xs : List Sp} {X : List (Nat × Obj)}
theorem Both.left (h : Both w0 w p u D E X) : ∃ Y : List (Nat × Obj), (∀ x ∈ X, ∀ y ∈ Y, x.1 ≠ y.1) ∧ HasD w0 w p D (Y ++ X) ∧ ∀ w' D' X', HasD w0 w' p D' (Y ++ X') → (∀ x ∈ X', ∀ y ∈ Y, x.1 ≠ y.1) → Both w0 w' p u D' E X' := by
  obtain ⟨m, G, v, a, mo, hd, hr, h1, h2, h3, hX⟩ := h.is
  refine ⟨blocksOf w (rzone u v), fun x hx y hy e => ?_, ⟨⟨m, G, hd, h1, fun x hx => ?_⟩, h.below⟩, fun w' D' X' h' hn => ?_⟩
  · exact (hX x hx).2.2 (by rw [e]; exact (mem_blocks.1 hy).1)
  · rcases List.mem_append.1 hx with hx | hx
    · obtain ⟨c, ho⟩ := mem_blocks.1 hx
      exact ⟨ho, fun z => h3 _ z c⟩
    · exact ⟨(hX x hx).1, (hX x hx).2.1⟩
  · obtain ⟨m', G', hd', h1', hX'⟩ := h'.is
    have old : ∀ b, rzone u v b → ∃ o, (b, o) ∈ blocksOf w (rzone u v) ∧ w.heap[b]? = some o := fun b z => by
      have := hr.lt z
      exact ⟨w.heap[b], mem_blocks.2 ⟨z, Array.getElem?_eq_getElem this⟩, Array.getElem?_eq_getElem this⟩
    refine ⟨⟨m', G', v, a, mo, hd', hr.kept fun b z => ?_, h1', h2, fun b z y => ?_, fun x hx => ⟨(hX' x (List.mem_append_right _ hx)).1, (hX' x (List.mem_append_right _ hx)).2, fun z => ?_⟩⟩, h'.below⟩
    · obtain ⟨o, ho, e⟩ := old b z
      rw [(hX' _ (List.mem_append_left _ ho)).1, e]
    · obtain ⟨o, ho, e⟩ := old b y
      exact (hX' _ (List.mem_append_left _ ho)).2 z
    · obtain ⟨o, ho, e⟩ := old x.1 z
      exact hn x hx _ ho rfl
theorem Both.right (h : Both w0 w p u D E X) : ∃ Y : List (Nat × Obj), (∀ x ∈ X, ∀ y ∈ Y, x.1 ≠ y.1) ∧ HasR w0 w u E (Y ++ X) ∧ ∀ w' E' X', HasR w0 w' u E' (Y ++ X') → (∀ x ∈ X', ∀ y ∈ Y, x.1 ≠ y.1) → Both w0 w' p u D E' X' := by
  obtain ⟨m, G, v, a, mo, hd, hr, h1, h2, h3, hX⟩ := h.is
  refine ⟨blocksOf w (zone p m G D.L), fun x hx y hy e => ?_, ⟨⟨v, a, mo, hr, h2, fun x hx => ?_⟩, h.below⟩, fun w' E' X' h' hn => ?_⟩
  · exact (hX x hx).2.1 (by rw [e]; exact (mem_blocks.1 hy).1)
  · rcases List.mem_append.1 hx with hx | hx
    · obtain ⟨c, ho⟩ := mem_blocks.1 hx
      exact ⟨ho, fun z => h3 _ c z⟩
    · exact ⟨(hX x hx).1, (hX x hx).2.2⟩
  · obtain ⟨v', a', mo', hr', h2', hX'⟩ := h'.is
    have old : ∀ b, zone p m G D.L b → ∃ o, (b, o) ∈ blocksOf w (zone p m G D.L) ∧ w.heap[b]? = some o := fun b z => by
      have := hd.lt z
      exact ⟨w.heap[b], mem_blocks.2 ⟨z, Array.getElem?_eq_getElem this⟩, Array.getElem?_eq_getElem this⟩
    refine ⟨⟨m, G, v', a', mo', hd.kept fun b z => ?_, hr', h1, h2', fun b z y => ?_, fun x hx => ⟨(hX' x (List.mem_append_right _ hx)).1, fun z => ?_, (hX' x (List.mem_append_right _ hx)).2⟩⟩, h'.below⟩
    · obtain ⟨o, ho, e⟩ := old b z
      rw [(hX' _ (List.mem_append_left _ ho)).1, e]
    · obtain ⟨o, ho, e⟩ := old b z
      exact (hX' _ (List.mem_append_left _ ho)).2 y
    · obtain ⟨o, ho, e⟩ := old x.1 z
      exact hn x hx _ ho rfl
theorem Both.less (h : Both w0 w p u D E X) {Y : List (Nat × Obj)} (hY : ∀ x ∈ Y, x ∈ X) : Both w0 w p u D E Y := by
  obtain ⟨m, G, v, a, mo, hd, hr, h1, h2, h3, hX⟩ := h.is
  exact ⟨⟨m, G, v, a, mo, hd, hr, h1, h2, h3, fun x hx => hX x (hY x hx)⟩, h.below⟩

/-- both disks with their logs; X: blocks of the law's own beside them -/
structure Pr (w0 w : World) (p u : Nat) (D E : Dk) (q r : Nat) (L M : Lg) (v : Value) (xs : List Sp) (X : List (Nat × Obj)) : Prop where
  d : Both w0 w p u D E ((q, dob p L) :: (r, rob u v M) :: X)
  hq : w0.heap.size ≤ q
  hr : w0.heap.size ≤ r
  ne : q ≠ r
  xq : ∀ x ∈ X, x.1 ≠ q
  xr : ∀ x ∈ X, x.1 ≠ r
  row : RowS w0 w v M xs
theorem Pr.below (h : Pr w0 w p u D E q r L M v xs X) : Below w0.heap.size w0 w := h.d.below
theorem Pr.ok (h : Pr w0 w p u D E q r L M v xs X) : D.Ok := h.d.ok
theorem Pr.kept (h : Pr w0 w p u D E q r L M v xs X) (hb : Below w.heap.size w w') : Pr w0 w' p u D E q r L M v xs X := ⟨h.d.kept hb, h.hq, h.hr, h.ne, h.xq, h.xr, h.row.kp (Kp.of_below hb)⟩
theorem Pr.drew (h : Pr w0 w p u D E q r L M v xs X) : Pr w0 w.drew p u D E q r L M v xs X := h.kept (Below.refl _ _).drew
theorem Pr.disk (h : Pr w0 w p u D E q r L M v xs X) : Both w0 w p u D E X := Both.less h.d fun x hx => List.mem_cons_of_mem _ (List.mem_cons_of_mem _ hx)
theorem Pr.less (h : Pr w0 w p u D E q r L M v xs X) {Y : List (Nat × Obj)} (hY : ∀ x ∈ Y, x ∈ X) : Pr w0 w p u D E q r L M v xs Y :=
  ⟨Both.less h.d fun x hx => by
    rcases List.mem_cons.1 hx with rfl | hx
    · exact List.mem_cons_self ..
    · rcases List.mem_cons.1 hx with rfl | hx
      · exact List.mem_cons_of_mem _ (List.mem_cons_self ..)
      · exact List.mem_cons_of_mem _ (List.mem_cons_of_mem _ (hY x hx)), h.hq, h.hr, h.ne, fun x hx => h.xq x (hY x hx), fun x hx => h.xr x (hY x hx), h.row⟩
theorem Pr.box (h : Pr w0 w p u D E q r L M v xs X) {b : Nat} {o : Obj} (hx : (b, o) ∈ X) : w.heap[b]? = some o := h.d.at (List.mem_cons_of_mem _ (List.mem_cons_of_mem _ hx))
/-- the document's log, its cells -/
theorem Pr.at (h : Pr w0 w p u D E q r L M v xs X) : At w r 45 (rgV u v M) := ⟨h.d.at (List.mem_cons_of_mem _ (List.mem_cons_self ..))⟩
theorem Pr.log (h : Pr w0 w p u D E q r L M v xs X) : ∃ Y, HasL w0 w p q D L Y ∧ ∀ w' D' L', HasL w0 w' p q D' L' Y → Kp w w' → Pr w0 w' p u D' E q r L' M v xs X := by
  obtain ⟨Y, hn, hd, back⟩ := Both.left h.d
  have nq : ∀ y ∈ Y ++ ((r, rob u v M) :: X), y.1 ≠ q := fun y hy e => by
    rcases List.mem_append.1 hy with hy | hy
    · exact hn _ (List.mem_cons_self ..) y hy e.symm
    · rcases List.mem_cons.1 hy with rfl | hy
      · exact h.ne e.symm
      · exact h.xq y hy e
  refine ⟨Y ++ ((r, rob u v M) :: X), ⟨hd.less fun x hx => ?_, h.hq, nq⟩, fun w' D' L' h' k => ⟨back w' D' _ (h'.d.less fun x hx => ?_) fun x hx y hy => ?_, h.hq, h.hr, h.ne, h.xq, h.xr, h.row.kp k⟩⟩
  · simp only [List.mem_cons, List.mem_append] at hx ⊢
    rcases hx with c | c | c | c
    · exact .inr (.inl c)
    · exact .inl c
    · exact .inr (.inr (.inl c))
    · exact .inr (.inr (.inr c))
  · simp only [List.mem_cons, List.mem_append] at hx ⊢
    rcases hx with c | c | c | c
    · exact .inr (.inl c)
    · exact .inl c
    · exact .inr (.inr (.inl c))
    · exact .inr (.inr (.inr c))
  · rcases List.mem_cons.1 hx with rfl | hx
    · exact hn (q, dob p L) (List.mem_cons_self ..) y hy
    · exact hn x (List.mem_cons_of_mem _ hx) y hy
theorem Pr.rlog (h : Pr w0 w p u D E q r L M v xs X) : ∃ Y, HasQ w0 w u r E v M Y ∧ ∀ w' E' M' v' xs', HasQ w0 w' u r E' v' M' Y → RowS w0 w' v' M' xs' → Pr w0 w' p u D E' q r L M' v' xs' X := by
  obtain ⟨Y, hn, hd, back⟩ := Both.right h.d
  have nr : ∀ y ∈ Y ++ ((q, dob p L) :: X), y.1 ≠ r := fun y hy e => by
    rcases List.mem_append.1 hy with hy | hy
    · exact hn _ (List.mem_cons_of_mem _ (List.mem_cons_self ..)) y hy e.symm
    · rcases List.mem_cons.1 hy with rfl | hy
      · exact h.ne e
      · exact h.xr y hy e
  refine ⟨Y ++ ((q, dob p L) :: X), ⟨hd.less fun x hx => ?_, h.hr, nr⟩, fun w' E' M' v' xs' h' row => ⟨back w' E' _ (h'.d.less fun x hx => ?_) fun x hx y hy => ?_, h.hq, h.hr, h.ne, h.xq, h.xr, row⟩⟩
  · simp only [List.mem_cons, List.mem_append] at hx ⊢
    rcases hx with c | c | c | c
    · exact .inr (.inr (.inl c))
    · exact .inl c
    · exact .inr (.inl c)
    · exact .inr (.inr (.inr c))
  · simp only [List.mem_cons, List.mem_append] at hx ⊢
    rcases hx with c | c | c | c
    · exact .inr (.inl c)
    · exact .inr (.inr (.inl c))
    · exact .inl c
    · exact .inr (.inr (.inr c))
  · rcases List.mem_cons.1 hx with rfl | hx
    · exact hn _ (List.mem_cons_self ..) y hy
    · rcases List.mem_cons.1 hx with rfl | hx
      · exact hn (r, rob u v M) (List.mem_cons_of_mem _ (List.mem_cons_self ..)) y hy
      · exact hn x (List.mem_cons_of_mem _ (List.mem_cons_of_mem _ hx)) y hy

/-! ### the calls -/
theorem pr_len (h : Pr w0 w p u D E q r L M v xs X) : Calls Tryz.prog 27 #[.pointer (some ⟨q, 0, none⟩)] w fun e w' => e = .returned (.int .i64 L.n) ∧ w = w' := by
  obtain ⟨Y, hl, _⟩ := h.log
  exact len_has hl
theorem pr_bytes (h : Pr w0 w p u D E q r L M v xs X) : Calls Tryz.prog 29 #[.pointer (some ⟨q, 0, none⟩)] w fun e w' => e = .returned (.int .i64 L.b) ∧ w = w' := by
  obtain ⟨Y, hl, _⟩ := h.log
  exact bytes_has hl
theorem pr_sure (h : Pr w0 w p u D E q r L M v xs X) : Calls Tryz.prog 28 #[.pointer (some ⟨q, 0, none⟩)] w fun e w' => e = .returned (.int .i64 L.s) ∧ w = w' := by
  obtain ⟨Y, hl, _⟩ := h.log
  exact sure_has hl
theorem pr_sick (h : Pr w0 w p u D E q r L M v xs X) : Calls Tryz.prog 30 #[.pointer (some ⟨q, 0, none⟩)] w fun e w' => e = .returned (.bool L.k) ∧ w = w' := by
  obtain ⟨Y, hl, _⟩ := h.log
  exact sick_has hl
theorem pr_add (h : Pr w0 w p u D E q r L M v xs X) (ho : D.ops ≤ 1099511627776) (fit : L.Fits) (x : Sp) (ok : Okay x) :
    Calls Tryz.prog 21 #[.pointer (some ⟨q, 0, none⟩), .agg (slV x)] w fun e w' => e = .returned (.int .i64 (addL D L x).1) ∧ Pr w0 w' p u (addL D L x).2.1 E q r (addL D L x).2.2 M v xs X := by
  obtain ⟨Y, hl, back⟩ := h.log
  exact (add_any hl ho fit x ok).mono fun e w' ⟨a, b, k⟩ => ⟨a, back _ _ _ b k⟩
theorem rpr_add (h : Pr w0 w p u D E q r L M v xs X) (pw : E.Pw) (ho : E.ops ≤ 1099511627776) (fit : M.Fits) (hl : xs.length ≤ 200000) (x : Sp) (ok : Okay x) :
    Calls Tryz.prog 22 #[.pointer (some ⟨r, 0, none⟩), .agg (slV x)] w fun e w' => e = .returned (.int .i64 (addL E M x).1) ∧ ∃ v' xs', Pr w0 w' p u D (addL E M x).2.1 q r L (addL E M x).2.2 v' xs' X := by
  obtain ⟨Y, hq, back⟩ := h.rlog
  exact (radd_any hq pw ho fit h.row hl x ok).mono fun e w' ⟨a, v', xs', b, own, oks, hn⟩ => ⟨a, v', xs', back _ _ _ _ _ b ⟨own, oks, hn⟩⟩
theorem pr_sync (h : Pr w0 w p u D E q r L M v xs X) (ho : D.ops ≤ 1099511627776) :
    Calls Tryz.prog 23 #[.pointer (some ⟨q, 0, none⟩)] w fun e w' => e = .returned (.int .i64 (syncL D L).1) ∧ Pr w0 w' p u (syncL D L).2.1 E q r (syncL D L).2.2 M v xs X := by
  obtain ⟨Y, hl, back⟩ := h.log
  exact (sync_any hl ho).mono fun e w' ⟨a, b, k⟩ => ⟨a, back _ _ _ b k⟩
theorem syncL_n (D : Dk) (L : Lg) : (syncL D L).2.2.n = L.n := by
  unfold syncL
  repeat' split
  all_goals rfl
theorem rpr_sync (h : Pr w0 w p u D E q r L M v xs X) (pw : E.Pw) (ho : E.ops ≤ 1099511627776) :
    Calls Tryz.prog 24 #[.pointer (some ⟨r, 0, none⟩)] w fun e w' => e = .returned (.int .i64 (syncL E M).1) ∧ ∃ v' xs', Pr w0 w' p u D (syncL E M).2.1 q r L (syncL E M).2.2 v' xs' X := by
  obtain ⟨Y, hq, back⟩ := h.rlog
  exact (rsync_any hq.slips pw ho h.row).mono fun e w' ⟨a, b⟩ => ⟨a, v, xs, back _ _ _ _ _ (b.less fun x hx => List.mem_append_right _ hx) ⟨(rkp_of b.disk).owns h.row.own, h.row.ok, by rw [syncL_n]; exact h.row.n⟩⟩
theorem pr_rew (h : Pr w0 w p u D E q r L M v xs X) (ho : D.ops + 5 ≤ 1099511627776) {t : Value} {ys : List Sp} (hv : SlsAt w t ys) (hl : ys.length ≤ 1000000) :
    Calls Tryz.prog 25 #[.pointer (some ⟨q, 0, none⟩), t] w fun e w' => e = .returned (.int .i64 (rewL D L ys).1) ∧ Pr w0 w' p u (rewL D L ys).2.1 E q r (rewL D L ys).2.2 M v xs X := by
  obtain ⟨Y, hq, back⟩ := h.log
  exact (rewrite_any hq ho hv hl).mono fun e w' ⟨a, b, k⟩ => ⟨a, back _ _ _ b k⟩
theorem rpr_rew (h : Pr w0 w p u D E q r L M v xs X) (pw : E.Pw) (ho : E.ops + 5 ≤ 1099511627776) {b : Option Addr} {c : Nat} {ys : List Sp} (hv : SlsAt w0 (.slice b ys.length c) ys) (hnil : b = none → c = 0) (hl : ys.length ≤ 100000) :
    Calls Tryz.prog 26 #[.pointer (some ⟨r, 0, none⟩), .slice b ys.length c] w fun e w' => e = .returned (.int .i64 (rewL E M ys).1) ∧ ∃ v' xs', Pr w0 w' p u D (rewL E M ys).2.1 q r L (rewL E M ys).2.2 v' xs' X := by
  obtain ⟨Y, hq, back⟩ := h.rlog
  exact (rrew_any hq pw ho h.row hv hnil hl).mono fun e w' ⟨a, v', xs', b, row⟩ => ⟨a, v', xs', back _ _ _ _ _ b row⟩

/-! ### Open -/
/-- what the program's Open makes of the pair -/
def POpen (w0 w : World) (p u : Nat) (D E : Dk) (X : List (Nat × Obj)) (e : Ending) (w' : World) : Prop :=
  ((load D).2.1 ≠ 0 ∧ e = .returned (.tuple #[.pointer none, .slice none 0 0, .int .i64 (load D).2.1]) ∧ Both w0 w' p u (load D).2.2 E X) ∨
  ((load D).2.1 = 0 ∧ ∃ (q : Nat) (v : Value) (xs : List Sp) (n : Nat), e = .returned (.tuple #[.pointer (some ⟨q, 0, none⟩), v, .int .i64 0]) ∧ Reads (nb (load D).1) xs n ∧ RowS w0 w' v ⟨(xs.length : Int), (n : Int), (xs.length : Int), decide (n < (load D).1.length)⟩ xs ∧
    Both w0 w' p u (load D).2.2 E ((q, dob p ⟨(xs.length : Int), (n : Int), (xs.length : Int), decide (n < (load D).1.length)⟩) :: X) ∧ w0.heap.size ≤ q ∧ ∀ x ∈ X, x.1 ≠ q)
theorem p_open (h : Both w0 w p u D E X) (ho : D.ops + 5 ≤ 1099511627776) :
    Calls Tryz.prog 7 #[.pointer (some ⟨p, 0, none⟩)] w fun e w' => POpen w0 w p u D E X e w' := by
  obtain ⟨Y, hn, hd, back⟩ := Both.left h
  refine (open_any hd ho).mono ?_
  rintro e w' (⟨a, b, h', _⟩ | ⟨a, q, v, xs, n, b, rd, ok, own, h', _⟩)
  · exact .inl ⟨a, b, back _ _ _ h' hn⟩
  · refine .inr ⟨a, q, v, xs, n, b, rd, ⟨own, ok, rfl⟩, back _ _ _ (h'.d.less fun x hx => ?_) fun x hx y hy e => ?_, h'.hq, fun x hx => h'.hx x (List.mem_append_right _ hx)⟩
    · simp only [List.mem_cons, List.mem_append] at hx ⊢
      rcases hx with c | c | c
      · exact .inr (.inl c)
      · exact .inl c
      · exact .inr (.inr c)
    · rcases List.mem_cons.1 hx with rfl | hx
      · exact h'.hx y (List.mem_append_left _ hy) e.symm
      · exact hn x hx y hy e
/-- what the document's Open makes of the pair -/
def ROpen (w0 w : World) (p u : Nat) (D E : Dk) (X : List (Nat × Obj)) (e : Ending) (w' : World) : Prop :=
  ((load E).2.1 ≠ 0 ∧ e = .returned (.tuple #[.pointer none, .int .i64 (load E).2.1]) ∧ Both w0 w' p u D (load E).2.2 X) ∨
  ((load E).2.1 = 0 ∧ ∃ (r : Nat) (v : Value) (xs : List Sp) (n : Nat), e = .returned (.tuple #[.pointer (some ⟨r, 0, none⟩), .int .i64 0]) ∧ Reads (nb (load E).1) xs n ∧ RowS w0 w' v ⟨(xs.length : Int), (n : Int), (xs.length : Int), decide (n < (load E).1.length)⟩ xs ∧
    Both w0 w' p u D (load E).2.2 ((r, rob u v ⟨(xs.length : Int), (n : Int), (xs.length : Int), decide (n < (load E).1.length)⟩) :: X) ∧ w0.heap.size ≤ r ∧ ∀ x ∈ X, x.1 ≠ r)
theorem r_open (h : Both w0 w p u D E X) (pw : E.Pw) (ho : E.ops + 5 ≤ 1099511627776) (hu : usedF E.L ≤ 1000000) :
    Calls Tryz.prog 8 #[.pointer (some ⟨u, 0, none⟩)] w fun e w' => ROpen w0 w p u D E X e w' ∧ Kp w w' := by
  obtain ⟨Y, hn, hd, back⟩ := Both.right h
  refine (ropen_any hd pw ho hu).mono ?_
  rintro e w' ⟨⟨a, b, h'⟩ | ⟨a, r, v, xs, n, b, rd, ok, own, h'⟩, k⟩
  · exact ⟨.inl ⟨a, b, back _ _ _ h' hn⟩, k⟩
  · refine ⟨.inr ⟨a, r, v, xs, n, b, rd, ⟨own, ok, rfl⟩, back _ _ _ (h'.d.less fun x hx => ?_) fun x hx y hy e => ?_, h'.hq, fun x hx => h'.hx x (List.mem_append_right _ hx)⟩, k⟩
    · simp only [List.mem_cons, List.mem_append] at hx ⊢
      rcases hx with c | c | c
      · exact .inr (.inl c)
      · exact .inl c
      · exact .inr (.inr c)
    · rcases List.mem_cons.1 hx with rfl | hx
      · exact h'.hx y (List.mem_append_left _ hy) e.symm
      · exact hn x hx y hy e

/-! ### a new start, two numbers -/
theorem keep_two (w : World) (x y : Int) {Z : Nat → Prop} (hz : ∀ b, Z b → b < w.heap.size) : KeepAt (w.alloc (.cells #[.int .i64 x, .int .i64 y] 3)) Z (.slice (some ⟨w.heap.size, 0, none⟩) 2 2) [x, y] := by
  have A := At.new w 3 #[.int .i64 x, .int .i64 y]
  refine ⟨some ⟨w.heap.size, 0, none⟩, 2, rfl, Nat.le_refl _, fun j t hj => ⟨_, rfl, A.lt, fun z => by have := hz _ z; simp at this, ?_⟩⟩
  rcases j with _ | _ | j
  · simp at hj
    subst hj
    exact A.cell 0
  · simp at hj
    subst hj
    exact A.cell 1
  · simp at hj
theorem p_on2 (h : Both w0 w p u D E X) (x y : Int) :
    Calls Tryz.prog 15 #[.pointer (some ⟨p, 0, none⟩), .slice (some ⟨w.heap.size, 0, none⟩) 2 2] (w.alloc (.cells #[.int .i64 x, .int .i64 y] 3)) fun e w' => e = .returned (.tuple #[]) ∧ Both w0 w' p u (D.on [x, y]) E X := by
  unfold Dk.on
  have h' : Both w0 (w.alloc (.cells #[.int .i64 x, .int .i64 y] 3)) p u D E X := h.kept ((Below.refl _ _).alloc (Nat.le_refl _) _)
  obtain ⟨m, G, v, a, mo, hd, hr, hz⟩ := h.is
  have hd' := hd.alloc (.cells #[.int .i64 x, .int .i64 y] 3)
  have hr' := hr.alloc (.cells #[.int .i64 x, .int .i64 y] 3)
  have hz' : (∀ b, zone p m G D.L b → w0.heap.size ≤ b) ∧ (∀ b, rzone u v b → w0.heap.size ≤ b) ∧ (∀ b, zone p m G D.L b → ¬ rzone u v b) ∧ ∀ z ∈ X, (w.alloc (.cells #[.int .i64 x, .int .i64 y] 3)).heap[z.1]? = some z.2 ∧ ¬ zone p m G D.L z.1 ∧ ¬ rzone u v z.1 :=
    ⟨hz.1, hz.2.1, hz.2.2.1, fun z hz1 => ⟨by rw [Below.heap_alloc _ _ _ (Pk.in_heap (hz.2.2.2 z hz1).1)]; exact (hz.2.2.2 z hz1).1, (hz.2.2.2 z hz1).2⟩⟩
  by_cases hoff : D.off = true
  · rw [if_pos hoff]
    exact (Pk.on_yes hd' hoff (keep_two w x y fun b z => hd.lt z) (by simp)).mono fun e w' ⟨q, hp⟩ => ⟨q, Pk.Both.post hd' hr' hz' h'.below hp⟩
  · rw [if_neg hoff]
    exact (Pk.on_no hd' (by simpa using hoff) _).mono fun e w' ⟨q, e'⟩ => ⟨q, e' ▸ h'⟩
theorem r_on2 {x y : Int} (h : Both w0 w p u (E.on [x, y]) E X) (hx : x ≤ 9223372036854775807) (hy : y ≤ 9223372036854775807) :
    Calls Tryz.prog 16 #[.pointer (some ⟨u, 0, none⟩), .slice (some ⟨w.heap.size, 0, none⟩) 2 2] (w.alloc (.cells #[.int .i64 x, .int .i64 y] 3)) fun e w' => e = .returned (.tuple #[]) ∧ Both w0 w' p u (E.on [x, y]) (E.on [x, y]) X := by
  have okk := h.ok
  have h' : Both w0 (w.alloc (.cells #[.int .i64 x, .int .i64 y] 3)) p u (E.on [x, y]) E X := h.kept ((Below.refl _ _).alloc (Nat.le_refl _) _)
  obtain ⟨m, G, v, a, mo, hd, hr, hz⟩ := h.is
  have hr1 : ∀ b, rzone u v b → b < w.heap.size := fun b z => hr.lt z
  have hd' := hd.alloc (.cells #[.int .i64 x, .int .i64 y] 3)
  have hr' := hr.alloc (.cells #[.int .i64 x, .int .i64 y] 3)
  have hz' : (∀ b, zone p m G (E.on [x, y]).L b → w0.heap.size ≤ b) ∧ (∀ b, rzone u v b → w0.heap.size ≤ b) ∧ (∀ b, zone p m G (E.on [x, y]).L b → ¬ rzone u v b) ∧ ∀ z ∈ X, (w.alloc (.cells #[.int .i64 x, .int .i64 y] 3)).heap[z.1]? = some z.2 ∧ ¬ zone p m G (E.on [x, y]).L z.1 ∧ ¬ rzone u v z.1 :=
    ⟨hz.1, hz.2.1, hz.2.2.1, fun z hz1 => ⟨by rw [Below.heap_alloc _ _ _ (Pk.in_heap (hz.2.2.2 z hz1).1)]; exact (hz.2.2.2 z hz1).1, (hz.2.2.2 z hz1).2⟩⟩
  by_cases hoff : E.off = true
  · have e1 : E.on [x, y] = { E with off := false, L := Pk.onL [x, y] E.L } := by unfold Dk.on; rw [if_pos hoff]
    rw [e1] at okk hd' hz' ⊢
    exact (Pk.ron_yes hr' hoff (keep_two w x y fun b z => hr1 b z) (by simp) (by simp; exact ⟨hx, hy⟩) okk).mono fun e w' ⟨q, hp⟩ => ⟨q, Pk.Both.rpost hd' hr' hz' h'.below hp⟩
  · have e1 : E.on [x, y] = E := by unfold Dk.on; rw [if_neg hoff]
    rw [e1] at h' ⊢
    exact (Pk.ron_no hr' (by simpa using hoff) _).mono fun e w' ⟨q, e'⟩ => ⟨q, e' ▸ h'⟩
end
end Go.Proofs.YtdmgobffhpgjlaaGreat.Sl.Dg
end

section
namespace Go.Proofs.YtdmgobffhpgjlaaGreat.Sl.Dg
open Go.RowKit Go.PlainAid Go.Proofs.YtdmgobffhpgjlaaGreat.Cr
open Go.Proofs.YtdmgobffhpgjlaaGreat.Pk (Bs Fi Dk kl i64_le LoadsA)
set_option linter.unusedVariables false
set_option maxRecDepth 20000
set_option linter.unusedSimpArgs false

structure Ac where
  kd : Int
  x : Sp
  lb : Option Addr
  lc : Nat
  ls : List Sp
  pos : Int
  n : Int
  m : Int
  s : ByteArray
def Ac.v (y : Ac) : Value := .slice y.lb y.ls.length y.lc
def Ac.cells (y : Ac) : Array Value := actV y.kd y.x y.v y.pos y.n y.m y.s
structure Ac.Ok (y : Ac) : Prop where
  x : Okay y.x
  pos : y.pos ≤ 9223372036854775807
  n : y.n ≤ 9223372036854775807
  m : y.m ≤ 9223372036854775807
  s : y.s.size ≤ 9223372036854775807
  l : y.ls.length ≤ 9223372036854775807
  nl : y.lb = none → y.lc = 0
structure ActsAt (w : World) (v : Value) (xs : List Ac) : Prop where
  is : ∃ base cap, v = .slice base xs.length cap ∧ ∀ j x, xs[j]? = some x → ∃ a : Addr, base = some a ∧ a.block < w.heap.size ∧ ∀ i c, x.cells[i]? = some c → w.cell? ((a.add (j * 44)).add i) = some c
  ok : ∀ x ∈ xs, x.Ok
  ls : ∀ x ∈ xs, SlsAt w x.v x.ls
theorem none_acts (w : World) : ActsAt w (.slice none 0 0) [] := ⟨⟨none, 0, rfl, by simp⟩, by simp, by simp⟩
theorem cut_at (l : List Value) (i k : Nat) : l.drop i = (l.drop i).take k ++ l.drop (i + k) := by
  rw [← List.drop_drop]
  exact (List.take_append_drop k (l.drop i)).symm
section
variable {H : Type} {enc : TypeId × Value → H} {w : World} {base : Nat} {spare : Nat → Bool} {held : Bool} {fuel : Nat} {x : DataW H × List MemPlace}
set_option maxRecDepth 100000 in
/-- one act, out of its cells -/
theorem open_act {cs : List Value} (h : DataW.trod enc Tryz.prog w base spare held fuel 41 cs = some x) : ∃ y : Ac, cs = y.cells.toList ∧ y.Ok ∧ SlsAt w y.v y.ls := by
  obtain ⟨xs, n, _, _, hl, hlen, hf⟩ := DataW.trod_struct Tryz.underlying41 h
  rw [show Tryz.prog.cellsOf 41 = 44 by kernel_rfl] at hl
  match xs, hlen with
  | [x0, x1, x2, x3, x4, x5, x6], _ =>
    have ki : Tryz.prog.cellsOf 3 = 1 := by kernel_rfl
    have ks : Tryz.prog.cellsOf 9 = 1 := by kernel_rfl
    have kx : Tryz.prog.cellsOf 39 = 38 := by kernel_rfl
    have kv : Tryz.prog.cellsOf 29 = 1 := by kernel_rfl
    have g0 : DataW.trod enc Tryz.prog w base spare held n 3 ((cs.drop 0).take (Tryz.prog.cellsOf 3)) = some x0 := hf 0 _ rfl
    have g1 : DataW.trod enc Tryz.prog w base spare held n 39 ((cs.drop 1).take (Tryz.prog.cellsOf 39)) = some x1 := hf 1 _ rfl
    have g2 : DataW.trod enc Tryz.prog w base spare held n 29 ((cs.drop 39).take (Tryz.prog.cellsOf 29)) = some x2 := hf 2 _ rfl
    have g3 : DataW.trod enc Tryz.prog w base spare held n 3 ((cs.drop 40).take (Tryz.prog.cellsOf 3)) = some x3 := hf 3 _ rfl
    have g4 : DataW.trod enc Tryz.prog w base spare held n 3 ((cs.drop 41).take (Tryz.prog.cellsOf 3)) = some x4 := hf 4 _ rfl
    have g5 : DataW.trod enc Tryz.prog w base spare held n 3 ((cs.drop 42).take (Tryz.prog.cellsOf 3)) = some x5 := hf 5 _ rfl
    have g6 : DataW.trod enc Tryz.prog w base spare held n 9 ((cs.drop 43).take (Tryz.prog.cellsOf 9)) = some x6 := hf 6 _ rfl
    rw [ki] at g0 g3 g4 g5
    rw [ks] at g6
    rw [kv] at g2
    obtain ⟨y0, e0, _, b0⟩ := DataW.trod_int Tryz.underlying3 g0
    obtain ⟨y1, e1, ok1⟩ := open_cells g1
    obtain ⟨y3, e3, _, b3⟩ := DataW.trod_int Tryz.underlying3 g3
    obtain ⟨y4, e4, _, b4⟩ := DataW.trod_int Tryz.underlying3 g4
    obtain ⟨y5, e5, _, b5⟩ := DataW.trod_int Tryz.underlying3 g5
    obtain ⟨y6, e6, _, b6⟩ := DataW.trod_string Tryz.underlying9 g6
    rw [kx] at e1
    have hv : ∃ b len cap, (cs.drop 39).take 1 = [Value.slice b len cap] ∧ (b = none → cap = 0) := by
      rcases Deep.open_slice Tryz.underlying29 g2 with ⟨hcs, _⟩ | ⟨a, len', cap', m, n, D, Pl, hcs, _⟩
      · exact ⟨_, _, _, hcs, fun _ => rfl⟩
      · exact ⟨_, _, _, hcs, fun e => by cases e⟩
    obtain ⟨b, len, cap, e2, nl⟩ := hv
    rw [e2] at g2
    obtain ⟨l, hls, hll⟩ := open_sls g2
    obtain ⟨hn, _⟩ := hls.len
    subst hn
    refine ⟨⟨y0, y1, b, cap, l, y3, y4, y5, y6⟩, ?_, ⟨ok1, i64_le b3, i64_le b4, i64_le b5, b6, hll, nl⟩, hls⟩
    have h0 := cut_at cs 0 1
    have h1 := cut_at cs 1 38
    have h2 := cut_at cs 39 1
    have h3 := cut_at cs 40 1
    have h4 := cut_at cs 41 1
    have h5 := cut_at cs 42 1
    have h6 := cut_at cs 43 1
    have h7 : cs.drop 44 = [] := List.drop_eq_nil_of_le (by omega)
    simp only [Nat.reduceAdd] at h0 h1 h2 h3 h4 h5 h6
    rw [e0] at h0
    rw [e1] at h1
    rw [e2] at h2
    rw [e3] at h3
    rw [e4] at h4
    rw [e5] at h5
    rw [e6] at h6
    rw [h1, h2, h3, h4, h5, h6, h7, List.drop_zero] at h0
    rw [h0]
    rfl
theorem open_acts {b : Option Addr} {len cap : Nat} (h : DataW.trod enc Tryz.prog w base spare held fuel 22 [.slice b len cap] = some x) :
    ∃ l : List Ac, ActsAt w (.slice b len cap) l ∧ l.length ≤ 9223372036854775807 := by
  rcases Deep.open_slice Tryz.underlying22 h with ⟨hcs, _⟩ | ⟨a, len', cap', m, n, D, Pl, hcs, hb, hl, hm, hmm, _, hx⟩
  · simp at hcs
    obtain ⟨rfl, rfl, rfl⟩ := hcs
    exact ⟨[], none_acts w, by simp⟩
  · simp at hcs
    obtain ⟨rfl, rfl, rfl⟩ := hcs
    rw [show Tryz.prog.cellsOf 41 = 44 by kernel_rfl] at hx
    have hlm : len ≤ m := by rw [hmm]; split <;> omega
    have hf : ∀ i, i < len → ∃ y : Ac, (∀ k c, y.cells[k]? = some c → w.cell? ((a.add (i * 44)).add k) = some c) ∧ y.Ok ∧ SlsAt w y.v y.ls := by
      intro i hi
      obtain ⟨cs', h1, h2⟩ := hx i (by omega)
      obtain ⟨y, rfl, y1, y2⟩ := open_act h2
      refine ⟨y, fun k c hk => ?_, y1, y2⟩
      obtain ⟨_, h3, h4⟩ := World.cells?_some h1
      have hk8 : k < 44 := by
        have := (Array.getElem?_eq_some_iff.1 hk).1
        have e : y.cells.size = 44 := act_size y1.x.dig.len
        omega
      rw [h4 k hk8]
      simpa using hk
    haveI : Inhabited Ac := ⟨⟨0, Sp.zero, none, 0, [], 0, 0, 0, .empty⟩⟩
    obtain ⟨Y, hY⟩ := Deep.choose_lt (α := Ac) (p := fun i y => (∀ k c, y.cells[k]? = some c → w.cell? ((a.add (i * 44)).add k) = some c) ∧ y.Ok ∧ SlsAt w y.v y.ls) hf
    have mem : ∀ y ∈ (List.range len).map Y, ∃ i, i < len ∧ y = Y i := by
      intro y hy
      obtain ⟨i, hi, rfl⟩ := List.mem_map.1 hy
      exact ⟨i, List.mem_range.1 hi, rfl⟩
    refine ⟨(List.range len).map Y, ⟨⟨some a, cap, by simp, fun j y hj => ?_⟩, ?_, ?_⟩, ?_⟩
    · have hlt : j < len := by
        have := (List.getElem?_eq_some_iff.1 hj).1
        simpa using this
      have : y = Y j := by simpa [hlt] using hj.symm
      subst this
      have hb := World.block_lt_of_cell? w _ ((hY j hlt).1 0 _ rfl)
      rw [add_block, add_block] at hb
      exact ⟨a, rfl, hb, (hY j hlt).1⟩
    · intro y hy
      obtain ⟨i, hi, rfl⟩ := mem y hy
      exact (hY i hi).2.1
    · intro y hy
      obtain ⟨i, hi, rfl⟩ := mem y hy
      exact (hY i hi).2.2
    · simp; unfold maxLen at hm; omega
end
theorem cells_size {y : Ac} (h : y.Ok) : y.cells.size = 44 := act_size h.x.dig.len
theorem loads_act {w : World} {a : Addr} {x : Ac} (ok : x.Ok) (h : ∀ i c, x.cells[i]? = some c → w.cell? (a.add i) = some c) : Loads Tryz.prog w 41 a x.cells := by
  unfold Loads loadVar
  have hl := run_loadCells_list (P := Tryz.prog) w a x.cells.toList (fun j v hv => h j v (by simpa using hv))
  have hz : (sizeOf 41).run Tryz.prog w = .ok 44 w := size_of (by kernel_rfl) w
  rw [show x.cells.toList.length = 44 from (by rw [Array.length_toList]; exact cells_size ok), Array.toArray_toList] at hl
  simp only [Sem.run_bind, run_isAgg (P := Tryz.prog) (t := 41) (by kernel_rfl) w, Result.andThen_ok, if_true, hz]
  rw [hl]
  rfl
theorem ActsAt.below {w w' : World} {v : Value} {xs : List Ac} (h : ActsAt w v xs) (hb : Below w.heap.size w w') : ActsAt w' v xs := by
  obtain ⟨base, cap, e, hc⟩ := h.is
  refine ⟨⟨base, cap, e, fun j x hj => ?_⟩, h.ok, fun x hx => (h.ls x hx).below hb⟩
  obtain ⟨a, ea, h1, h2⟩ := hc j x hj
  exact ⟨a, ea, Nat.lt_of_lt_of_le h1 hb.size, fun i c hi => by rw [hb.cell (by rw [add_block, add_block]; exact h1)]; exact h2 i c hi⟩
end Go.Proofs.YtdmgobffhpgjlaaGreat.Sl.Dg
end

section
namespace Go.Proofs.YtdmgobffhpgjlaaGreat.Sl.Dg
open Go.RowKit Go.PlainAid Go.Proofs.YtdmgobffhpgjlaaGreat.Cr
open Go.Proofs.YtdmgobffhpgjlaaGreat.Pk (Bs Fi Dk kl usedF Both HasD)
set_option linter.unusedVariables false
set_option maxRecDepth 20000
set_option linter.unusedSimpArgs false

/-! ### an act in a variable -/
def box (y : Ac) : Obj := .cells y.cells 41 (0, 0)
theorem act40 {kd : Int} {x : Sp} {v : Value} {a n m : Int} {s : ByteArray} (h : x.dig.length = 32) : (actV kd x v a n m s)[40]? = some (.int .i64 a) := by
  simp [actV, List.getElem?_append, slL_len h]
theorem act41 {kd : Int} {x : Sp} {v : Value} {a n m : Int} {s : ByteArray} (h : x.dig.length = 32) : (actV kd x v a n m s)[41]? = some (.int .i64 n) := by
  simp [actV, List.getElem?_append, slL_len h]
theorem act42 {kd : Int} {x : Sp} {v : Value} {a n m : Int} {s : ByteArray} (h : x.dig.length = 32) : (actV kd x v a n m s)[42]? = some (.int .i64 m) := by
  simp [actV, List.getElem?_append, slL_len h]
theorem act_one {y : Ac} : ∀ u ∈ y.cells.toList, u.oneCell' = true := by
  intro u hu
  simp only [Ac.cells, actV, Ac.v] at hu
  simp only [List.mem_append, List.mem_cons, List.not_mem_nil, or_false] at hu
  rcases hu with rfl | hu | rfl | rfl | rfl | rfl | rfl
  · rfl
  · exact slL_one _ u hu
  all_goals rfl
theorem zact : (#[.int .i64 0, .int .i64 0, .string ⟨#[]⟩, .string ⟨#[]⟩, .int .u8 0, .int .u8 0, .int .u8 0, .int .u8 0, .int .u8 0, .int .u8 0, .int .u8 0, .int .u8 0, .int .u8 0, .int .u8 0, .int .u8 0, .int .u8 0, .int .u8 0, .int .u8 0, .int .u8 0, .int .u8 0, .int .u8 0, .int .u8 0, .int .u8 0, .int .u8 0, .int .u8 0, .int .u8 0, .int .u8 0, .int .u8 0, .int .u8 0, .int .u8 0, .int .u8 0, .int .u8 0, .int .u8 0, .int .u8 0, .int .u8 0, .int .u8 0, .string ⟨#[]⟩, .int .i64 0, .int .i64 0, .slice none 0 0, .int .i64 0, .int .i64 0, .int .i64 0, .string ⟨#[]⟩] : Array Value) = actV 0 Sp.zero (.slice none 0 0) 0 0 0 ⟨#[]⟩ := by
  simp [actV, slL, dV, Sp.zero, zeros, none8, List.replicate]
section
variable {w : World} {B : Nat} {y : Ac}
theorem act_keep (w : World) (hy : y.Ok) :
    ∃ X, Stores Tryz.prog (w.alloc (.cells #[.int .i64 0, .int .i64 0, .string ⟨#[]⟩, .string ⟨#[]⟩, .int .u8 0, .int .u8 0, .int .u8 0, .int .u8 0, .int .u8 0, .int .u8 0, .int .u8 0, .int .u8 0, .int .u8 0, .int .u8 0, .int .u8 0, .int .u8 0, .int .u8 0, .int .u8 0, .int .u8 0, .int .u8 0, .int .u8 0, .int .u8 0, .int .u8 0, .int .u8 0, .int .u8 0, .int .u8 0, .int .u8 0, .int .u8 0, .int .u8 0, .int .u8 0, .int .u8 0, .int .u8 0, .int .u8 0, .int .u8 0, .int .u8 0, .int .u8 0, .string ⟨#[]⟩, .int .i64 0, .int .i64 0, .slice none 0 0, .int .i64 0, .int .i64 0, .int .i64 0, .string ⟨#[]⟩] 41)) 41 w.heap.size 0 y.cells X ∧ At X w.heap.size 41 y.cells ∧ Below w.heap.size w X ∧ X.heap.size = w.heap.size + 1 := by
  rw [zact]
  exact keep w (actV 0 Sp.zero (.slice none 0 0) 0 0 0 ⟨#[]⟩) y.cells 41 (by rw [cells_size hy]; kernel_rfl) (by rw [cells_size hy, act_size zeros_dig.len]) act_one
theorem box_loads (h : w.heap[B]? = some (box y)) (hy : y.Ok) : Loads Tryz.prog w 41 ⟨B, 0, none⟩ y.cells :=
  (At.mk h).loads (by kernel_rfl) (by rw [cells_size hy]; kernel_rfl)
theorem box_x (h : w.heap[B]? = some (box y)) (hy : y.Ok) : Loads Tryz.prog w 39 ⟨B, 1, none⟩ (slV y.x) := by
  have := loads_part (P := Tryz.prog) (ty := 39) (off := 1) (n := 38) h (by kernel_rfl) (by kernel_rfl) (by rw [cells_size hy]; decide)
  have e : y.cells.extract 1 (1 + 38) = slV y.x := by
    simp only [Ac.cells, actV, slV, List.extract_toArray]
    congr 1
    rw [List.extract_eq_take_drop, List.drop_left' (by rfl), Nat.add_sub_cancel_left, List.take_left' (by rw [slL_len hy.x.dig.len])]
  rw [e] at this
  exact this
theorem box_cell (h : w.heap[B]? = some (box y)) (hy : y.Ok) : w.cell? ⟨B, 0, none⟩ = some (.int .i64 y.kd) ∧ w.cell? ⟨B, 39, none⟩ = some y.v ∧ w.cell? ⟨B, 40, none⟩ = some (.int .i64 y.pos) ∧ w.cell? ⟨B, 41, none⟩ = some (.int .i64 y.n) ∧ w.cell? ⟨B, 42, none⟩ = some (.int .i64 y.m) ∧ w.cell? ⟨B, 43, none⟩ = some (.string y.s) := by
  have d := hy.x.dig.len
  have c := fun i => (At.mk h).cell i
  exact ⟨by rw [c 0]; rfl, by rw [c 39]; exact act39 d, by rw [c 40]; exact act40 d, by rw [c 41]; exact act41 d, by rw [c 42]; exact act42 d, by rw [c 43]; exact act43 d⟩
end

/-! ### behind k acts -/
section
variable {w0 w w' : World} {p u q r : Nat} {D E D' E' : Dk} {L M : Lg} {v lv uv : Value} {xs : List Sp} {X Z : List (Nat × Obj)} {k : Nat} {f : Nat} {args : Array Value} {R : Ending → Prop}
/-- the two logs, or neither: Z are their blocks and X -/
def Logs (w0 w : World) (p u : Nat) (lv uv : Value) (k : Nat) (Z X : List (Nat × Obj)) : Prop :=
  (lv = .pointer none ∧ uv = .pointer none ∧ Z = X) ∨ ∃ q r L v xs, lv = .pointer (some ⟨q, 0, none⟩) ∧ uv = .pointer (some ⟨r, 0, none⟩) ∧ Z = (q, dob p L) :: (r, rob u v L) :: X ∧ w0.heap.size ≤ q ∧ w0.heap.size ≤ r ∧ q ≠ r ∧ (∀ x ∈ X, x.1 ≠ q) ∧ (∀ x ∈ X, x.1 ≠ r) ∧ Lb L k ∧ RowS w0 w v L xs
theorem Logs.kp (h : Logs w0 w p u lv uv k Z X) (kp : Kp w w') : Logs w0 w' p u lv uv k Z X := by
  rcases h with h | ⟨q, r, L, v, xs, a, b, c, d, e, f, g, i, j, row⟩
  · exact .inl h
  · exact .inr ⟨q, r, L, v, xs, a, b, c, d, e, f, g, i, j, row.kp kp⟩
theorem Logs.sub (h : Logs w0 w p u lv uv k Z X) : ∀ x ∈ X, x ∈ Z := by
  rcases h with ⟨_, _, rfl⟩ | ⟨q, r, L, v, xs, a, b, rfl, _⟩
  · exact fun x hx => hx
  · exact fun x hx => List.mem_cons_of_mem _ (List.mem_cons_of_mem _ hx)
/-- behind k acts -/
def St (w0 w : World) (p u : Nat) (lv uv : Value) (k : Nat) (X : List (Nat × Obj)) : Prop := ∃ D Z, Bd D k ∧ Both w0 w p u D D Z ∧ Logs w0 w p u lv uv k Z X
/-- behind the first switch of an act -/
def Sm (w0 w : World) (p u : Nat) (lv uv : Value) (k : Nat) (X : List (Nat × Obj)) : Prop := ∃ D, Bm D k ∧ ((lv = .pointer none ∧ uv = .pointer none ∧ Both w0 w p u D D X) ∨ ∃ q r L v xs, lv = .pointer (some ⟨q, 0, none⟩) ∧ uv = .pointer (some ⟨r, 0, none⟩) ∧ Lb L k ∧ Pr w0 w p u D D q r L L v xs X)
theorem st_nil (b : Bd D k) (h : Both w0 w p u D D X) : St w0 w p u (.pointer none) (.pointer none) k X := ⟨D, X, b, h, .inl ⟨rfl, rfl, rfl⟩⟩
theorem st_log (b : Bd D k) (l : Lb L k) (h : Pr w0 w p u D D q r L L v xs X) : St w0 w p u (.pointer (some ⟨q, 0, none⟩)) (.pointer (some ⟨r, 0, none⟩)) k X := ⟨D, _, b, h.d, .inr ⟨q, r, L, v, xs, rfl, rfl, rfl, h.hq, h.hr, h.ne, h.xq, h.xr, l, h.row⟩⟩
theorem St.below (h : St w0 w p u lv uv k X) : Below w0.heap.size w0 w := by
  obtain ⟨D, Z, _, hB, _⟩ := h
  exact hB.below
theorem sm_nil (b : Bm D k) (h : Both w0 w p u D D X) : Sm w0 w p u (.pointer none) (.pointer none) k X := ⟨D, b, .inl ⟨rfl, rfl, h⟩⟩
theorem sm_log (b : Bm D k) (l : Lb L k) (h : Pr w0 w p u D D q r L L v xs X) : Sm w0 w p u (.pointer (some ⟨q, 0, none⟩)) (.pointer (some ⟨r, 0, none⟩)) k X := ⟨D, b, .inr ⟨q, r, L, v, xs, rfl, rfl, l, h⟩⟩
theorem sm_of (b : Bm D k) (h : Both w0 w p u D D Z) (lg : Logs w0 w p u lv uv k Z X) : Sm w0 w p u lv uv k X := by
  rcases lg with ⟨rfl, rfl, rfl⟩ | ⟨q, r, L, v, xs, rfl, rfl, rfl, c, d, e, f, g, i, row⟩
  · exact sm_nil b h
  · exact sm_log b i ⟨h, c, d, e, f, g, row⟩
/-- a block that is made now -/
theorem Logs.more (h : Logs w0 w p u lv uv k Z X) (hb : Below w.heap.size w w') {b : Nat} {o : Obj} (hn : w.heap.size ≤ b) (hB : Both w0 w p u D D Z) (ho : w'.heap[b]? = some o) : ∃ Z', Logs w0 w' p u lv uv k Z' ((b, o) :: X) ∧ Both w0 w' p u D D Z' := by
  have hm := hB.more hb hn ho
  have far : ∀ x ∈ Z, x.1 ≠ b := fun x hx e => by
    have := Pk.in_heap (hB.at (b := x.1) (o := x.2) hx)
    omega
  rcases h with ⟨rfl, rfl, rfl⟩ | ⟨q, r, L, v, xs, rfl, rfl, rfl, c, d, e, f, g, i, row⟩
  · exact ⟨_, .inl ⟨rfl, rfl, rfl⟩, hm⟩
  · refine ⟨_, .inr ⟨q, r, L, v, xs, rfl, rfl, rfl, c, d, e, fun x hx => ?_, fun x hx => ?_, i, row.kp (Kp.of_below hb)⟩, Both.less hm fun x hx => ?_⟩
    · rcases List.mem_cons.1 hx with rfl | hx
      · exact (far (q, dob p L) (List.mem_cons_self ..)).symm
      · exact f x hx
    · rcases List.mem_cons.1 hx with rfl | hx
      · exact (far (r, rob u v L) (List.mem_cons_of_mem _ (List.mem_cons_self ..))).symm
      · exact g x hx
    · simp only [List.mem_cons] at hx ⊢
      rcases hx with c | c | c | c
      · exact .inr (.inl c)
      · exact .inr (.inr (.inl c))
      · exact .inl c
      · exact .inr (.inr (.inr c))

/-! ### calls of the disks alone: slips stay -/
theorem Both.slips (h : Both w0 w p u D E X) : Both w0 w p u D E (slipX w ++ X) := by
  obtain ⟨m, G, v, a, mo, hd, hr, h1, h2, h3, hX⟩ := h.is
  refine ⟨⟨m, G, v, a, mo, hd, hr, h1, h2, h3, fun x hx => ?_⟩, h.below⟩
  rcases List.mem_append.1 hx with hx | hx
  · obtain ⟨c, fr, e, hb⟩ := mem_slipX.1 hx
    refine ⟨hb, ?_, ?_⟩
    · rw [e] at hb
      exact zone_type hd hb (by decide) (by decide) (by decide)
    · rw [e] at hb
      exact rzone_type hr hb (by decide) (by decide)
  · exact hX x hx
theorem Both.frame (h : Both w0 w p u D E X) (c : ∀ X, Both w0 w p u D E X → Calls Tryz.prog f args w fun e w' => R e ∧ Both w0 w' p u D' E' X) : Calls Tryz.prog f args w fun e w' => R e ∧ Both w0 w' p u D' E' X ∧ Kp w w' :=
  (c _ (Both.slips h)).mono fun e w' ⟨r, h'⟩ => ⟨r, Both.less h' fun x hx => List.mem_append_right _ hx, ⟨fun b c fr hb => by
    have : ((b, .cells c 39 fr) : Nat × Obj) ∈ slipX w ++ X := List.mem_append_left _ (mem_slipX.2 ⟨c, fr, rfl, hb⟩)
    rw [h'.at this, hb]⟩⟩

/-! ### both Opens -/
def lgR (D : Dk) (xs : List Sp) (n : Nat) : Lg := ⟨(xs.length : Int), (n : Int), (xs.length : Int), decide (n < (load D).1.length)⟩
theorem p_open_no (h : Both w0 w p u D E X) (ho : D.ops + 5 ≤ 1099511627776) (c : (load D).2.1 ≠ 0) :
    Calls Tryz.prog 7 #[.pointer (some ⟨p, 0, none⟩)] w fun e w' => e = .returned (.tuple #[.pointer none, .slice none 0 0, .int .i64 (load D).2.1]) ∧ Both w0 w' p u (load D).2.2 E X :=
  (p_open h ho).mono fun e w' P => by
    rcases P with ⟨_, a, b⟩ | ⟨a, _⟩
    · exact ⟨a, b⟩
    · exact absurd a c
theorem p_open_yes (h : Both w0 w p u D E X) (ho : D.ops + 5 ≤ 1099511627776) (c : (load D).2.1 = 0) :
    Calls Tryz.prog 7 #[.pointer (some ⟨p, 0, none⟩)] w fun e w' => ∃ (q : Nat) (g : Option Addr) (cp : Nat) (xs : List Sp) (n : Nat), e = .returned (.tuple #[.pointer (some ⟨q, 0, none⟩), .slice g xs.length cp, .int .i64 0]) ∧ Reads (nb (load D).1) xs n ∧ RowS w0 w' (.slice g xs.length cp) (lgR D xs n) xs ∧
      Both w0 w' p u (load D).2.2 E ((q, dob p (lgR D xs n)) :: X) ∧ w0.heap.size ≤ q ∧ ∀ x ∈ X, x.1 ≠ q :=
  (p_open h ho).mono fun e w' P => by
    rcases P with ⟨a, _⟩ | ⟨_, q, v, xs, n, a, rd, row, hB, hq, hx⟩
    · exact absurd c a
    · obtain ⟨g, cp, rfl⟩ := row.form
      exact ⟨q, g, cp, xs, n, a, rd, row, hB, hq, hx⟩
theorem r_open_no (h : Both w0 w p u E D X) (pw : D.Pw) (ho : D.ops + 5 ≤ 1099511627776) (hu : usedF D.L ≤ 1000000) (c : (load D).2.1 ≠ 0) :
    Calls Tryz.prog 8 #[.pointer (some ⟨u, 0, none⟩)] w fun e w' => e = .returned (.tuple #[.pointer none, .int .i64 (load D).2.1]) ∧ Both w0 w' p u E (load D).2.2 X :=
  (r_open h pw ho hu).mono fun e w' ⟨P, _⟩ => by
    rcases P with ⟨_, a, b⟩ | ⟨a, _⟩
    · exact ⟨a, b⟩
    · exact absurd a c
theorem r_open_yes {n : Nat} (h : Both w0 w p u (load D).2.2 D ((q, dob p (lgR D xs n)) :: X)) (pw : D.Pw) (ho : D.ops + 5 ≤ 1099511627776) (hu : usedF D.L ≤ 1000000) (c : (load D).2.1 = 0) (rd : Reads (nb (load D).1) xs n) (hq : w0.heap.size ≤ q) (hx : ∀ x ∈ X, x.1 ≠ q) :
    Calls Tryz.prog 8 #[.pointer (some ⟨u, 0, none⟩)] w fun e w' => ∃ (r : Nat) (g : Option Addr) (cp : Nat), e = .returned (.tuple #[.pointer (some ⟨r, 0, none⟩), .int .i64 0]) ∧ Pr w0 w' p u (load D).2.2 (load D).2.2 q r (lgR D xs n) (lgR D xs n) (.slice g xs.length cp) xs X ∧ Kp w w' :=
  (r_open h pw ho hu).mono fun e w' ⟨P, kp⟩ => by
    rcases P with ⟨a, _⟩ | ⟨_, r, v, ys, m, a, rd2, row, hB, hr, hx2⟩
    · exact absurd c a
    · obtain ⟨rfl, rfl⟩ := reads_one rd rd2
      obtain ⟨g, cp, rfl⟩ := row.form
      exact ⟨r, g, cp, a, ⟨Both.less hB fun x hx => by
        simp only [List.mem_cons] at hx ⊢
        rcases hx with c | c | c
        · exact .inr (.inl c)
        · exact .inl c
        · exact .inr (.inr c), hq, hr, hx2 (q, dob p (lgR D xs n)) (List.mem_cons_self ..), hx, fun x h => hx2 x (List.mem_cons_of_mem _ h), row⟩, kp⟩
end
theorem new_clamp (room : Int) : Dk.new room = Dk.new (min (max room 0) 4194304) := by
  unfold Dk.new
  congr 1
  omega
theorem new_opens (room : Int) : (load (Dk.new room)).2.1 = 0 ∧ (load (Dk.new room)).1 = [] := by
  rw [new_clamp]
  obtain ⟨E, h, _⟩ := new_load (room := min (max room 0) 4194304) (by omega)
  rw [h]
  exact ⟨rfl, rfl⟩
theorem reads_none {xs : List Sp} {n : Nat} (h : Reads (nb []) xs n) : xs = [] ∧ n = 0 := by
  obtain ⟨h1, h2⟩ := reads_le h
  simp only [nb, List.map_nil, List.length_nil] at h1
  have : xs.length = 0 := by omega
  exact ⟨List.eq_nil_of_length_eq_zero this, by omega⟩
end Go.Proofs.YtdmgobffhpgjlaaGreat.Sl.Dg
end
