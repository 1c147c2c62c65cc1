/-
  Two disks beside each other, each with its log, or neither: the calls of both logs, told of such a pair.
-/
import Derived.Test.YtdmgobffhpgjlaaGreatDxOpen
import Derived.Test.YtdmgobffhpgjlaaGreatDxRew
import Derived.Test.YtdmgobffhpgjlaaGreatDxMath
import Derived.Test.YtdmgobffhpgjlaaGreatDgRow

namespace Go.Proofs.YtdmgobffhpgjlaaGreat.Sl.Dg
open Go.RowKit Go.PlainAid Go.Proofs.YtdmgobffhpgjlaaGreat.Cr
open Go.Proofs.YtdmgobffhpgjlaaGreat.Pk (Bs Fi Dk kl usedF Both HasD DiskAt RefAt zone rzone KeepAt)
set_option linter.unusedVariables false
set_option maxRecDepth 20000
set_option linter.unusedSimpArgs false

/-- the blocks of a zone -/
noncomputable def blocksOf (w : World) (Z : Nat → Prop) : List (Nat × Obj) := (List.range w.heap.size).filterMap fun b => @ite _ (Z b) (Classical.propDecidable _) (w.heap[b]?.map fun o => (b, o)) none
theorem mem_blocks {w : World} {Z : Nat → Prop} {x : Nat × Obj} : x ∈ blocksOf w Z ↔ Z x.1 ∧ w.heap[x.1]? = some x.2 := by
  unfold blocksOf
  rw [List.mem_filterMap]
  constructor
  · rintro ⟨b, _, hb⟩
    split at hb
    · rename_i c
      cases ho : w.heap[b]? with
      | none => rw [ho] at hb; cases hb
      | some o =>
        rw [ho] at hb
        simp only [Option.map_some] at hb
        obtain rfl := Option.some.inj hb
        exact ⟨c, ho⟩
    · cases hb
  · rintro ⟨c, ho⟩
    refine ⟨x.1, by simpa using Pk.in_heap ho, ?_⟩
    rw [if_pos c, ho]
    rfl
section
variable {w0 w w' : World} {p u q r : Nat} {D E D' E' : Dk} {L M L' M' : Lg} {v : Value} {xs : List Sp} {X : List (Nat × Obj)}
theorem Both.left (h : Both w0 w p u D E X) : ∃ Y : List (Nat × Obj), (∀ x ∈ X, ∀ y ∈ Y, x.1 ≠ y.1) ∧ HasD w0 w p D (Y ++ X) ∧ ∀ w' D' X', HasD w0 w' p D' (Y ++ X') → (∀ x ∈ X', ∀ y ∈ Y, x.1 ≠ y.1) → Both w0 w' p u D' E X' := by
  obtain ⟨m, G, v, a, mo, hd, hr, h1, h2, h3, hX⟩ := h.is
  refine ⟨blocksOf w (rzone u v), fun x hx y hy e => ?_, ⟨⟨m, G, hd, h1, fun x hx => ?_⟩, h.below⟩, fun w' D' X' h' hn => ?_⟩
  · exact (hX x hx).2.2 (by rw [e]; exact (mem_blocks.1 hy).1)
  · rcases List.mem_append.1 hx with hx | hx
    · obtain ⟨c, ho⟩ := mem_blocks.1 hx
      exact ⟨ho, fun z => h3 _ z c⟩
    · exact ⟨(hX x hx).1, (hX x hx).2.1⟩
  · obtain ⟨m', G', hd', h1', hX'⟩ := h'.is
    have old : ∀ b, rzone u v b → ∃ o, (b, o) ∈ blocksOf w (rzone u v) ∧ w.heap[b]? = some o := fun b z => by
      have := hr.lt z
      exact ⟨w.heap[b], mem_blocks.2 ⟨z, Array.getElem?_eq_getElem this⟩, Array.getElem?_eq_getElem this⟩
    refine ⟨⟨m', G', v, a, mo, hd', hr.kept fun b z => ?_, h1', h2, fun b z y => ?_, fun x hx => ⟨(hX' x (List.mem_append_right _ hx)).1, (hX' x (List.mem_append_right _ hx)).2, fun z => ?_⟩⟩, h'.below⟩
    · obtain ⟨o, ho, e⟩ := old b z
      rw [(hX' _ (List.mem_append_left _ ho)).1, e]
    · obtain ⟨o, ho, e⟩ := old b y
      exact (hX' _ (List.mem_append_left _ ho)).2 z
    · obtain ⟨o, ho, e⟩ := old x.1 z
      exact hn x hx _ ho rfl
theorem Both.right (h : Both w0 w p u D E X) : ∃ Y : List (Nat × Obj), (∀ x ∈ X, ∀ y ∈ Y, x.1 ≠ y.1) ∧ HasR w0 w u E (Y ++ X) ∧ ∀ w' E' X', HasR w0 w' u E' (Y ++ X') → (∀ x ∈ X', ∀ y ∈ Y, x.1 ≠ y.1) → Both w0 w' p u D E' X' := by
  obtain ⟨m, G, v, a, mo, hd, hr, h1, h2, h3, hX⟩ := h.is
  refine ⟨blocksOf w (zone p m G D.L), fun x hx y hy e => ?_, ⟨⟨v, a, mo, hr, h2, fun x hx => ?_⟩, h.below⟩, fun w' E' X' h' hn => ?_⟩
  · exact (hX x hx).2.1 (by rw [e]; exact (mem_blocks.1 hy).1)
  · rcases List.mem_append.1 hx with hx | hx
    · obtain ⟨c, ho⟩ := mem_blocks.1 hx
      exact ⟨ho, fun z => h3 _ c z⟩
    · exact ⟨(hX x hx).1, (hX x hx).2.2⟩
  · obtain ⟨v', a', mo', hr', h2', hX'⟩ := h'.is
    have old : ∀ b, zone p m G D.L b → ∃ o, (b, o) ∈ blocksOf w (zone p m G D.L) ∧ w.heap[b]? = some o := fun b z => by
      have := hd.lt z
      exact ⟨w.heap[b], mem_blocks.2 ⟨z, Array.getElem?_eq_getElem this⟩, Array.getElem?_eq_getElem this⟩
    refine ⟨⟨m, G, v', a', mo', hd.kept fun b z => ?_, hr', h1, h2', fun b z y => ?_, fun x hx => ⟨(hX' x (List.mem_append_right _ hx)).1, fun z => ?_, (hX' x (List.mem_append_right _ hx)).2⟩⟩, h'.below⟩
    · obtain ⟨o, ho, e⟩ := old b z
      rw [(hX' _ (List.mem_append_left _ ho)).1, e]
    · obtain ⟨o, ho, e⟩ := old b z
      exact (hX' _ (List.mem_append_left _ ho)).2 y
    · obtain ⟨o, ho, e⟩ := old x.1 z
      exact hn x hx _ ho rfl
theorem Both.less (h : Both w0 w p u D E X) {Y : List (Nat × Obj)} (hY : ∀ x ∈ Y, x ∈ X) : Both w0 w p u D E Y := by
  obtain ⟨m, G, v, a, mo, hd, hr, h1, h2, h3, hX⟩ := h.is
  exact ⟨⟨m, G, v, a, mo, hd, hr, h1, h2, h3, fun x hx => hX x (hY x hx)⟩, h.below⟩

/-- both disks with their logs; X: blocks of the law's own beside them -/
structure Pr (w0 w : World) (p u : Nat) (D E : Dk) (q r : Nat) (L M : Lg) (v : Value) (xs : List Sp) (X : List (Nat × Obj)) : Prop where
  d : Both w0 w p u D E ((q, dob p L) :: (r, rob u v M) :: X)
  hq : w0.heap.size ≤ q
  hr : w0.heap.size ≤ r
  ne : q ≠ r
  xq : ∀ x ∈ X, x.1 ≠ q
  xr : ∀ x ∈ X, x.1 ≠ r
  row : RowS w0 w v M xs
theorem Pr.below (h : Pr w0 w p u D E q r L M v xs X) : Below w0.heap.size w0 w := h.d.below
theorem Pr.ok (h : Pr w0 w p u D E q r L M v xs X) : D.Ok := h.d.ok
theorem Pr.kept (h : Pr w0 w p u D E q r L M v xs X) (hb : Below w.heap.size w w') : Pr w0 w' p u D E q r L M v xs X := ⟨h.d.kept hb, h.hq, h.hr, h.ne, h.xq, h.xr, h.row.kp (Kp.of_below hb)⟩
theorem Pr.drew (h : Pr w0 w p u D E q r L M v xs X) : Pr w0 w.drew p u D E q r L M v xs X := h.kept (Below.refl _ _).drew
theorem Pr.disk (h : Pr w0 w p u D E q r L M v xs X) : Both w0 w p u D E X := Both.less h.d fun x hx => List.mem_cons_of_mem _ (List.mem_cons_of_mem _ hx)
theorem Pr.less (h : Pr w0 w p u D E q r L M v xs X) {Y : List (Nat × Obj)} (hY : ∀ x ∈ Y, x ∈ X) : Pr w0 w p u D E q r L M v xs Y :=
  ⟨Both.less h.d fun x hx => by
    rcases List.mem_cons.1 hx with rfl | hx
    · exact List.mem_cons_self ..
    · rcases List.mem_cons.1 hx with rfl | hx
      · exact List.mem_cons_of_mem _ (List.mem_cons_self ..)
      · exact List.mem_cons_of_mem _ (List.mem_cons_of_mem _ (hY x hx)), h.hq, h.hr, h.ne, fun x hx => h.xq x (hY x hx), fun x hx => h.xr x (hY x hx), h.row⟩
theorem Pr.box (h : Pr w0 w p u D E q r L M v xs X) {b : Nat} {o : Obj} (hx : (b, o) ∈ X) : w.heap[b]? = some o := h.d.at (List.mem_cons_of_mem _ (List.mem_cons_of_mem _ hx))
/-- the document's log, its cells -/
theorem Pr.at (h : Pr w0 w p u D E q r L M v xs X) : At w r 45 (rgV u v M) := ⟨h.d.at (List.mem_cons_of_mem _ (List.mem_cons_self ..))⟩
theorem Pr.log (h : Pr w0 w p u D E q r L M v xs X) : ∃ Y, HasL w0 w p q D L Y ∧ ∀ w' D' L', HasL w0 w' p q D' L' Y → Kp w w' → Pr w0 w' p u D' E q r L' M v xs X := by
  obtain ⟨Y, hn, hd, back⟩ := Both.left h.d
  have nq : ∀ y ∈ Y ++ ((r, rob u v M) :: X), y.1 ≠ q := fun y hy e => by
    rcases List.mem_append.1 hy with hy | hy
    · exact hn _ (List.mem_cons_self ..) y hy e.symm
    · rcases List.mem_cons.1 hy with rfl | hy
      · exact h.ne e.symm
      · exact h.xq y hy e
  refine ⟨Y ++ ((r, rob u v M) :: X), ⟨hd.less fun x hx => ?_, h.hq, nq⟩, fun w' D' L' h' k => ⟨back w' D' _ (h'.d.less fun x hx => ?_) fun x hx y hy => ?_, h.hq, h.hr, h.ne, h.xq, h.xr, h.row.kp k⟩⟩
  · simp only [List.mem_cons, List.mem_append] at hx ⊢
    rcases hx with c | c | c | c
    · exact .inr (.inl c)
    · exact .inl c
    · exact .inr (.inr (.inl c))
    · exact .inr (.inr (.inr c))
  · simp only [List.mem_cons, List.mem_append] at hx ⊢
    rcases hx with c | c | c | c
    · exact .inr (.inl c)
    · exact .inl c
    · exact .inr (.inr (.inl c))
    · exact .inr (.inr (.inr c))
  · rcases List.mem_cons.1 hx with rfl | hx
    · exact hn (q, dob p L) (List.mem_cons_self ..) y hy
    · exact hn x (List.mem_cons_of_mem _ hx) y hy
theorem Pr.rlog (h : Pr w0 w p u D E q r L M v xs X) : ∃ Y, HasQ w0 w u r E v M Y ∧ ∀ w' E' M' v' xs', HasQ w0 w' u r E' v' M' Y → RowS w0 w' v' M' xs' → Pr w0 w' p u D E' q r L M' v' xs' X := by
  obtain ⟨Y, hn, hd, back⟩ := Both.right h.d
  have nr : ∀ y ∈ Y ++ ((q, dob p L) :: X), y.1 ≠ r := fun y hy e => by
    rcases List.mem_append.1 hy with hy | hy
    · exact hn _ (List.mem_cons_of_mem _ (List.mem_cons_self ..)) y hy e.symm
    · rcases List.mem_cons.1 hy with rfl | hy
      · exact h.ne e
      · exact h.xr y hy e
  refine ⟨Y ++ ((q, dob p L) :: X), ⟨hd.less fun x hx => ?_, h.hr, nr⟩, fun w' E' M' v' xs' h' row => ⟨back w' E' _ (h'.d.less fun x hx => ?_) fun x hx y hy => ?_, h.hq, h.hr, h.ne, h.xq, h.xr, row⟩⟩
  · simp only [List.mem_cons, List.mem_append] at hx ⊢
    rcases hx with c | c | c | c
    · exact .inr (.inr (.inl c))
    · exact .inl c
    · exact .inr (.inl c)
    · exact .inr (.inr (.inr c))
  · simp only [List.mem_cons, List.mem_append] at hx ⊢
    rcases hx with c | c | c | c
    · exact .inr (.inl c)
    · exact .inr (.inr (.inl c))
    · exact .inl c
    · exact .inr (.inr (.inr c))
  · rcases List.mem_cons.1 hx with rfl | hx
    · exact hn _ (List.mem_cons_self ..) y hy
    · rcases List.mem_cons.1 hx with rfl | hx
      · exact hn (r, rob u v M) (List.mem_cons_of_mem _ (List.mem_cons_self ..)) y hy
      · exact hn x (List.mem_cons_of_mem _ (List.mem_cons_of_mem _ hx)) y hy

/-! ### the calls -/
theorem pr_len (h : Pr w0 w p u D E q r L M v xs X) : Calls Tryz.prog 27 #[.pointer (some ⟨q, 0, none⟩)] w fun e w' => e = .returned (.int .i64 L.n) ∧ w = w' := by
  obtain ⟨Y, hl, _⟩ := h.log
  exact len_has hl
theorem pr_bytes (h : Pr w0 w p u D E q r L M v xs X) : Calls Tryz.prog 29 #[.pointer (some ⟨q, 0, none⟩)] w fun e w' => e = .returned (.int .i64 L.b) ∧ w = w' := by
  obtain ⟨Y, hl, _⟩ := h.log
  exact bytes_has hl
theorem pr_sure (h : Pr w0 w p u D E q r L M v xs X) : Calls Tryz.prog 28 #[.pointer (some ⟨q, 0, none⟩)] w fun e w' => e = .returned (.int .i64 L.s) ∧ w = w' := by
  obtain ⟨Y, hl, _⟩ := h.log
  exact sure_has hl
theorem pr_sick (h : Pr w0 w p u D E q r L M v xs X) : Calls Tryz.prog 30 #[.pointer (some ⟨q, 0, none⟩)] w fun e w' => e = .returned (.bool L.k) ∧ w = w' := by
  obtain ⟨Y, hl, _⟩ := h.log
  exact sick_has hl
theorem pr_add (h : Pr w0 w p u D E q r L M v xs X) (ho : D.ops ≤ 1099511627776) (fit : L.Fits) (x : Sp) (ok : Okay x) :
    Calls Tryz.prog 21 #[.pointer (some ⟨q, 0, none⟩), .agg (slV x)] w fun e w' => e = .returned (.int .i64 (addL D L x).1) ∧ Pr w0 w' p u (addL D L x).2.1 E q r (addL D L x).2.2 M v xs X := by
  obtain ⟨Y, hl, back⟩ := h.log
  exact (add_any hl ho fit x ok).mono fun e w' ⟨a, b, k⟩ => ⟨a, back _ _ _ b k⟩
theorem rpr_add (h : Pr w0 w p u D E q r L M v xs X) (pw : E.Pw) (ho : E.ops ≤ 1099511627776) (fit : M.Fits) (hl : xs.length ≤ 200000) (x : Sp) (ok : Okay x) :
    Calls Tryz.prog 22 #[.pointer (some ⟨r, 0, none⟩), .agg (slV x)] w fun e w' => e = .returned (.int .i64 (addL E M x).1) ∧ ∃ v' xs', Pr w0 w' p u D (addL E M x).2.1 q r L (addL E M x).2.2 v' xs' X := by
  obtain ⟨Y, hq, back⟩ := h.rlog
  exact (radd_any hq pw ho fit h.row hl x ok).mono fun e w' ⟨a, v', xs', b, own, oks, hn⟩ => ⟨a, v', xs', back _ _ _ _ _ b ⟨own, oks, hn⟩⟩
theorem pr_sync (h : Pr w0 w p u D E q r L M v xs X) (ho : D.ops ≤ 1099511627776) :
    Calls Tryz.prog 23 #[.pointer (some ⟨q, 0, none⟩)] w fun e w' => e = .returned (.int .i64 (syncL D L).1) ∧ Pr w0 w' p u (syncL D L).2.1 E q r (syncL D L).2.2 M v xs X := by
  obtain ⟨Y, hl, back⟩ := h.log
  exact (sync_any hl ho).mono fun e w' ⟨a, b, k⟩ => ⟨a, back _ _ _ b k⟩
theorem syncL_n (D : Dk) (L : Lg) : (syncL D L).2.2.n = L.n := by
  unfold syncL
  repeat' split
  all_goals rfl
theorem rpr_sync (h : Pr w0 w p u D E q r L M v xs X) (pw : E.Pw) (ho : E.ops ≤ 1099511627776) :
    Calls Tryz.prog 24 #[.pointer (some ⟨r, 0, none⟩)] w fun e w' => e = .returned (.int .i64 (syncL E M).1) ∧ ∃ v' xs', Pr w0 w' p u D (syncL E M).2.1 q r L (syncL E M).2.2 v' xs' X := by
  obtain ⟨Y, hq, back⟩ := h.rlog
  exact (rsync_any hq.slips pw ho h.row).mono fun e w' ⟨a, b⟩ => ⟨a, v, xs, back _ _ _ _ _ (b.less fun x hx => List.mem_append_right _ hx) ⟨(rkp_of b.disk).owns h.row.own, h.row.ok, by rw [syncL_n]; exact h.row.n⟩⟩
theorem pr_rew (h : Pr w0 w p u D E q r L M v xs X) (ho : D.ops + 5 ≤ 1099511627776) {t : Value} {ys : List Sp} (hv : SlsAt w t ys) (hl : ys.length ≤ 1000000) :
    Calls Tryz.prog 25 #[.pointer (some ⟨q, 0, none⟩), t] w fun e w' => e = .returned (.int .i64 (rewL D L ys).1) ∧ Pr w0 w' p u (rewL D L ys).2.1 E q r (rewL D L ys).2.2 M v xs X := by
  obtain ⟨Y, hq, back⟩ := h.log
  exact (rewrite_any hq ho hv hl).mono fun e w' ⟨a, b, k⟩ => ⟨a, back _ _ _ b k⟩
theorem rpr_rew (h : Pr w0 w p u D E q r L M v xs X) (pw : E.Pw) (ho : E.ops + 5 ≤ 1099511627776) {b : Option Addr} {c : Nat} {ys : List Sp} (hv : SlsAt w0 (.slice b ys.length c) ys) (hnil : b = none → c = 0) (hl : ys.length ≤ 100000) :
    Calls Tryz.prog 26 #[.pointer (some ⟨r, 0, none⟩), .slice b ys.length c] w fun e w' => e = .returned (.int .i64 (rewL E M ys).1) ∧ ∃ v' xs', Pr w0 w' p u D (rewL E M ys).2.1 q r L (rewL E M ys).2.2 v' xs' X := by
  obtain ⟨Y, hq, back⟩ := h.rlog
  exact (rrew_any hq pw ho h.row hv hnil hl).mono fun e w' ⟨a, v', xs', b, row⟩ => ⟨a, v', xs', back _ _ _ _ _ b row⟩

/-! ### Open -/
/-- what the program's Open makes of the pair -/
def POpen (w0 w : World) (p u : Nat) (D E : Dk) (X : List (Nat × Obj)) (e : Ending) (w' : World) : Prop :=
  ((load D).2.1 ≠ 0 ∧ e = .returned (.tuple #[.pointer none, .slice none 0 0, .int .i64 (load D).2.1]) ∧ Both w0 w' p u (load D).2.2 E X) ∨
  ((load D).2.1 = 0 ∧ ∃ (q : Nat) (v : Value) (xs : List Sp) (n : Nat), e = .returned (.tuple #[.pointer (some ⟨q, 0, none⟩), v, .int .i64 0]) ∧ Reads (nb (load D).1) xs n ∧ RowS w0 w' v ⟨(xs.length : Int), (n : Int), (xs.length : Int), decide (n < (load D).1.length)⟩ xs ∧
    Both w0 w' p u (load D).2.2 E ((q, dob p ⟨(xs.length : Int), (n : Int), (xs.length : Int), decide (n < (load D).1.length)⟩) :: X) ∧ w0.heap.size ≤ q ∧ ∀ x ∈ X, x.1 ≠ q)
theorem p_open (h : Both w0 w p u D E X) (ho : D.ops + 5 ≤ 1099511627776) :
    Calls Tryz.prog 7 #[.pointer (some ⟨p, 0, none⟩)] w fun e w' => POpen w0 w p u D E X e w' := by
  obtain ⟨Y, hn, hd, back⟩ := Both.left h
  refine (open_any hd ho).mono ?_
  rintro e w' (⟨a, b, h', _⟩ | ⟨a, q, v, xs, n, b, rd, ok, own, h', _⟩)
  · exact .inl ⟨a, b, back _ _ _ h' hn⟩
  · refine .inr ⟨a, q, v, xs, n, b, rd, ⟨own, ok, rfl⟩, back _ _ _ (h'.d.less fun x hx => ?_) fun x hx y hy e => ?_, h'.hq, fun x hx => h'.hx x (List.mem_append_right _ hx)⟩
    · simp only [List.mem_cons, List.mem_append] at hx ⊢
      rcases hx with c | c | c
      · exact .inr (.inl c)
      · exact .inl c
      · exact .inr (.inr c)
    · rcases List.mem_cons.1 hx with rfl | hx
      · exact h'.hx y (List.mem_append_left _ hy) e.symm
      · exact hn x hx y hy e
/-- what the document's Open makes of the pair -/
def ROpen (w0 w : World) (p u : Nat) (D E : Dk) (X : List (Nat × Obj)) (e : Ending) (w' : World) : Prop :=
  ((load E).2.1 ≠ 0 ∧ e = .returned (.tuple #[.pointer none, .int .i64 (load E).2.1]) ∧ Both w0 w' p u D (load E).2.2 X) ∨
  ((load E).2.1 = 0 ∧ ∃ (r : Nat) (v : Value) (xs : List Sp) (n : Nat), e = .returned (.tuple #[.pointer (some ⟨r, 0, none⟩), .int .i64 0]) ∧ Reads (nb (load E).1) xs n ∧ RowS w0 w' v ⟨(xs.length : Int), (n : Int), (xs.length : Int), decide (n < (load E).1.length)⟩ xs ∧
    Both w0 w' p u D (load E).2.2 ((r, rob u v ⟨(xs.length : Int), (n : Int), (xs.length : Int), decide (n < (load E).1.length)⟩) :: X) ∧ w0.heap.size ≤ r ∧ ∀ x ∈ X, x.1 ≠ r)
theorem r_open (h : Both w0 w p u D E X) (pw : E.Pw) (ho : E.ops + 5 ≤ 1099511627776) (hu : usedF E.L ≤ 1000000) :
    Calls Tryz.prog 8 #[.pointer (some ⟨u, 0, none⟩)] w fun e w' => ROpen w0 w p u D E X e w' ∧ Kp w w' := by
  obtain ⟨Y, hn, hd, back⟩ := Both.right h
  refine (ropen_any hd pw ho hu).mono ?_
  rintro e w' ⟨⟨a, b, h'⟩ | ⟨a, r, v, xs, n, b, rd, ok, own, h'⟩, k⟩
  · exact ⟨.inl ⟨a, b, back _ _ _ h' hn⟩, k⟩
  · refine ⟨.inr ⟨a, r, v, xs, n, b, rd, ⟨own, ok, rfl⟩, back _ _ _ (h'.d.less fun x hx => ?_) fun x hx y hy e => ?_, h'.hq, fun x hx => h'.hx x (List.mem_append_right _ hx)⟩, k⟩
    · simp only [List.mem_cons, List.mem_append] at hx ⊢
      rcases hx with c | c | c
      · exact .inr (.inl c)
      · exact .inl c
      · exact .inr (.inr c)
    · rcases List.mem_cons.1 hx with rfl | hx
      · exact h'.hx y (List.mem_append_left _ hy) e.symm
      · exact hn x hx y hy e

/-! ### a new start, two numbers -/
theorem keep_two (w : World) (x y : Int) {Z : Nat → Prop} (hz : ∀ b, Z b → b < w.heap.size) : KeepAt (w.alloc (.cells #[.int .i64 x, .int .i64 y] 3)) Z (.slice (some ⟨w.heap.size, 0, none⟩) 2 2) [x, y] := by
  have A := At.new w 3 #[.int .i64 x, .int .i64 y]
  refine ⟨some ⟨w.heap.size, 0, none⟩, 2, rfl, Nat.le_refl _, fun j t hj => ⟨_, rfl, A.lt, fun z => by have := hz _ z; simp at this, ?_⟩⟩
  rcases j with _ | _ | j
  · simp at hj
    subst hj
    exact A.cell 0
  · simp at hj
    subst hj
    exact A.cell 1
  · simp at hj
theorem p_on2 (h : Both w0 w p u D E X) (x y : Int) :
    Calls Tryz.prog 15 #[.pointer (some ⟨p, 0, none⟩), .slice (some ⟨w.heap.size, 0, none⟩) 2 2] (w.alloc (.cells #[.int .i64 x, .int .i64 y] 3)) fun e w' => e = .returned (.tuple #[]) ∧ Both w0 w' p u (D.on [x, y]) E X := by
  unfold Dk.on
  have h' : Both w0 (w.alloc (.cells #[.int .i64 x, .int .i64 y] 3)) p u D E X := h.kept ((Below.refl _ _).alloc (Nat.le_refl _) _)
  obtain ⟨m, G, v, a, mo, hd, hr, hz⟩ := h.is
  have hd' := hd.alloc (.cells #[.int .i64 x, .int .i64 y] 3)
  have hr' := hr.alloc (.cells #[.int .i64 x, .int .i64 y] 3)
  have hz' : (∀ b, zone p m G D.L b → w0.heap.size ≤ b) ∧ (∀ b, rzone u v b → w0.heap.size ≤ b) ∧ (∀ b, zone p m G D.L b → ¬ rzone u v b) ∧ ∀ z ∈ X, (w.alloc (.cells #[.int .i64 x, .int .i64 y] 3)).heap[z.1]? = some z.2 ∧ ¬ zone p m G D.L z.1 ∧ ¬ rzone u v z.1 :=
    ⟨hz.1, hz.2.1, hz.2.2.1, fun z hz1 => ⟨by rw [Below.heap_alloc _ _ _ (Pk.in_heap (hz.2.2.2 z hz1).1)]; exact (hz.2.2.2 z hz1).1, (hz.2.2.2 z hz1).2⟩⟩
  by_cases hoff : D.off = true
  · rw [if_pos hoff]
    exact (Pk.on_yes hd' hoff (keep_two w x y fun b z => hd.lt z) (by simp)).mono fun e w' ⟨q, hp⟩ => ⟨q, Pk.Both.post hd' hr' hz' h'.below hp⟩
  · rw [if_neg hoff]
    exact (Pk.on_no hd' (by simpa using hoff) _).mono fun e w' ⟨q, e'⟩ => ⟨q, e' ▸ h'⟩
theorem r_on2 {x y : Int} (h : Both w0 w p u (E.on [x, y]) E X) (hx : x ≤ 9223372036854775807) (hy : y ≤ 9223372036854775807) :
    Calls Tryz.prog 16 #[.pointer (some ⟨u, 0, none⟩), .slice (some ⟨w.heap.size, 0, none⟩) 2 2] (w.alloc (.cells #[.int .i64 x, .int .i64 y] 3)) fun e w' => e = .returned (.tuple #[]) ∧ Both w0 w' p u (E.on [x, y]) (E.on [x, y]) X := by
  have okk := h.ok
  have h' : Both w0 (w.alloc (.cells #[.int .i64 x, .int .i64 y] 3)) p u (E.on [x, y]) E X := h.kept ((Below.refl _ _).alloc (Nat.le_refl _) _)
  obtain ⟨m, G, v, a, mo, hd, hr, hz⟩ := h.is
  have hr1 : ∀ b, rzone u v b → b < w.heap.size := fun b z => hr.lt z
  have hd' := hd.alloc (.cells #[.int .i64 x, .int .i64 y] 3)
  have hr' := hr.alloc (.cells #[.int .i64 x, .int .i64 y] 3)
  have hz' : (∀ b, zone p m G (E.on [x, y]).L b → w0.heap.size ≤ b) ∧ (∀ b, rzone u v b → w0.heap.size ≤ b) ∧ (∀ b, zone p m G (E.on [x, y]).L b → ¬ rzone u v b) ∧ ∀ z ∈ X, (w.alloc (.cells #[.int .i64 x, .int .i64 y] 3)).heap[z.1]? = some z.2 ∧ ¬ zone p m G (E.on [x, y]).L z.1 ∧ ¬ rzone u v z.1 :=
    ⟨hz.1, hz.2.1, hz.2.2.1, fun z hz1 => ⟨by rw [Below.heap_alloc _ _ _ (Pk.in_heap (hz.2.2.2 z hz1).1)]; exact (hz.2.2.2 z hz1).1, (hz.2.2.2 z hz1).2⟩⟩
  by_cases hoff : E.off = true
  · have e1 : E.on [x, y] = { E with off := false, L := Pk.onL [x, y] E.L } := by unfold Dk.on; rw [if_pos hoff]
    rw [e1] at okk hd' hz' ⊢
    exact (Pk.ron_yes hr' hoff (keep_two w x y fun b z => hr1 b z) (by simp) (by simp; exact ⟨hx, hy⟩) okk).mono fun e w' ⟨q, hp⟩ => ⟨q, Pk.Both.rpost hd' hr' hz' h'.below hp⟩
  · have e1 : E.on [x, y] = E := by unfold Dk.on; rw [if_neg hoff]
    rw [e1] at h' ⊢
    exact (Pk.ron_no hr' (by simpa using hoff) _).mono fun e w' ⟨q, e'⟩ => ⟨q, e' ▸ h'⟩
end
end Go.Proofs.YtdmgobffhpgjlaaGreat.Sl.Dg
