/-
  Acts of the laws: how they are made, and whether one is more than is asked.
  A row of slips of a law's own grows beside its log; faults that are armed.
  Rows of numbers and of bools among a law's arguments; the power comes again, with numbers that were handed in.
  A log that is written anew while the power may go: what is found then. No program text but in the last lines.
  Rows beside one another; operations of a drawn region that make memory. For the walk of DiaryKeeps.
-/
import Derived.Test.YtdmgobffhpgjlaaGreatDgD
import Derived.Test.YtdmgobffhpgjlaaGreatSlOpen
import Derived.SliceStrings
import Derived.Deep.Slices
import Derived.Laws.AppendOwnNone
section
namespace Go.Proofs.YtdmgobffhpgjlaaGreat.Sl.Dg
open Go.RowKit Go.PlainAid Go.Proofs.YtdmgobffhpgjlaaGreat.Cr
set_option linter.unusedVariables false
set_option maxRecDepth 20000
set_option linter.unusedSimpArgs false

def actV (kd : Int) (x : Sp) (v : Value) (a n m : Int) (s : ByteArray) : Array Value := ([Value.int .i64 kd] ++ (slL x ++ [v, .int .i64 a, .int .i64 n, .int .i64 m, .string s])).toArray
theorem act_size {kd : Int} {x : Sp} {v : Value} {a n m : Int} {s : ByteArray} (h : x.dig.length = 32) : (actV kd x v a n m s).size = 44 := by simp [actV, slL_len h]
section
variable {kd : Int} {x : Sp} {v : Value} {a n m : Int} {s : ByteArray}
theorem act36 (h : x.dig.length = 32) : (actV kd x v a n m s)[36]? = some (.string x.ty) := by
  simp [actV, slL, List.getElem?_append, dV_len, h]
theorem act39 (h : x.dig.length = 32) : (actV kd x v a n m s)[39]? = some v := by
  simp [actV, List.getElem?_append, slL_len h]
theorem act43 (h : x.dig.length = 32) : (actV kd x v a n m s)[43]? = some (.string s) := by
  simp [actV, List.getElem?_append, slL_len h]
end
section
variable {ops : Array Oper} {rest : List Oper} {o : Oper} {a : Act} {w : World} {Q : Exit → Act → World → Prop} {y z : Operand} {x : Sp} {b : Option Addr} {len cap : Nat}
end

/-! ### great -/
def greatS (x : Sp) : Bool := decide (500 < x.repo.size) || (decide (500 < x.tag.size) || decide (500 < x.ty.size))
def greatA (xs : List Sp) (s : ByteArray) (x : Sp) : Bool := decide (20 < xs.length) || (decide (500 < s.size) || (greatS x || xs.any greatS))
theorem greatS_no {x : Sp} (h1 : ¬ 500 < x.repo.size) (h2 : ¬ 500 < x.tag.size) (h3 : ¬ 500 < x.ty.size) : greatS x = false := by simp [greatS, h1, h2, h3]
theorem greatS_yes {x : Sp} (h : 500 < x.repo.size ∨ 500 < x.tag.size ∨ 500 < x.ty.size) : greatS x = true := by
  unfold greatS
  simp only [Bool.or_eq_true, decide_eq_true_eq]
  exact h
theorem any_snoc {xs : List Sp} {k : Nat} {y : Sp} (h : xs[k]? = some y) (hy : greatS y = false) (hc : ∀ z ∈ xs.take k, greatS z = false) : ∀ z ∈ xs.take (k + 1), greatS z = false := by
  intro z hz
  rw [List.take_add_one, h] at hz
  rcases List.mem_append.1 hz with c | c
  · exact hc z c
  · simp at c; subst c; exact hy
set_option maxHeartbeats 4000000 in
theorem great_any {xs : List Sp} {v : Value} {w : World} (hv : SlsAt w v xs) (hl : xs.length ≤ 9223372036854775807) (kd a n m : Int) (s : ByteArray) (hs : s.size ≤ 9223372036854775807) (x : Sp) (ok : Okay x) :
    Calls Tryz.prog 9 #[.agg (actV kd x v a n m s)] w fun e w' => e = .returned (.bool (greatA xs s x)) ∧ Below w.heap.size w w' := by
  have X := At.new w 41 (actV kd x v a n m s)
  have F : Below w.heap.size w (w.alloc (.cells (actV kd x v a n m s) 41)) := (Below.refl _ _).alloc (Nat.le_refl _) _
  have z1 := ok.repo; have z2 := ok.tag; have z3 := ok.ty; have hd := ok.dig.len
  replace hv := hv.below F
  obtain ⟨b1, cap1, rfl, hcap, hcell⟩ := hv.is
  have OKL := Lib.hid hv.ok
  have HC := Lib.hid hcell
  clear hv hcell
  obtain ⟨n1, hn1⟩ : ∃ n1, n1 = xs.length := ⟨_, rfl⟩
  obtain ⟨r, hr⟩ : ∃ r, greatA xs s x = r := ⟨_, rfl⟩
  rw [hr]
  unfold greatA at hr
  rw [← hn1] at X F HC hr hl hcap ⊢
  have HR := Lib.hid hr
  have HN1 := Lib.hid hn1
  clear hr hn1
  go_enter Tryz.func9, Tryz.ntmps9
  go_upto_region 1 with (fail)
  generalize w.alloc (.cells (actV kd x (.slice b1 n1 cap1) a n m s) 41) = w1 at X F HC ⊢
  generalize hB : w.heap.size = B at X ⊢
  have c2 : w1.cell? ⟨B, 2, none⟩ = some (.string x.repo) := X.cell 2
  have c3 : w1.cell? ⟨B, 3, none⟩ = some (.string x.tag) := X.cell 3
  have c36 : w1.cell? ⟨B, 36, none⟩ = some (.string x.ty) := (X.cell 36).trans (act36 hd)
  have c39 : w1.cell? ⟨B, 39, none⟩ = some (.slice b1 n1 cap1) := (X.cell 39).trans (act39 hd)
  have c43 : w1.cell? ⟨B, 43, none⟩ = some (.string s) := (X.cell 43).trans (act43 hd)
  clear hB X
  by_cases h0 : 20 < n1
  · have l0 : (20 : Int) < (n1 : Int) := by omega
    have e : r = true := by rw [← HR.out]; simp [h0]
    subst e
    go_wp2
    go_ret
    exact ⟨rfl, F⟩
  have l0 : ¬ (20 : Int) < (n1 : Int) := by omega
  by_cases h1 : 500 < s.size
  · have l1 : (500 : Int) < (s.size : Int) := by omega
    have e : r = true := by rw [← HR.out]; simp [h1]
    subst e
    go_wp2
    go_ret
    exact ⟨rfl, F⟩
  have l1 : ¬ (500 : Int) < (s.size : Int) := by omega
  by_cases h2 : 500 < x.repo.size
  · have l2 : (500 : Int) < (x.repo.size : Int) := by omega
    have e : r = true := by rw [← HR.out, greatS_yes (.inl h2)]; simp
    subst e
    go_wp2
    go_ret
    exact ⟨rfl, F⟩
  have l2 : ¬ (500 : Int) < (x.repo.size : Int) := by omega
  by_cases h3 : 500 < x.tag.size
  · have l3 : (500 : Int) < (x.tag.size : Int) := by omega
    have e : r = true := by rw [← HR.out, greatS_yes (.inr (.inl h3))]; simp
    subst e
    go_wp2
    go_ret
    exact ⟨rfl, F⟩
  have l3 : ¬ (500 : Int) < (x.tag.size : Int) := by omega
  by_cases h4 : 500 < x.ty.size
  · have l4 : (500 : Int) < (x.ty.size : Int) := by omega
    have e : r = true := by rw [← HR.out, greatS_yes (.inr (.inr h4))]; simp
    subst e
    go_wp2
    go_ret
    exact ⟨rfl, F⟩
  have l4 : ¬ (500 : Int) < (x.ty.size : Int) := by omega
  have HR2 : Hid (xs.any greatS = r) := Lib.hid (by
    have := HR.out
    rw [greatS_no h2 h3 h4, decide_eq_false h0, decide_eq_false h1] at this
    simpa using this)
  clear HR h1 h2 h3 h4
  go_wp2
  go_loopw [3] (fun i wr => ∃ k : Nat, w1 = wr ∧ k ≤ n1 ∧ i = .int .i64 k ∧ ∀ z ∈ xs.take k, greatS z = false) (fun i _ => n1 - (intOf i).toNat)
  case atStart => exact ⟨0, rfl, Nat.zero_le _, rfl, by simp⟩
  case round =>
    obtain ⟨k, rfl, hk, rfl, hall⟩ := hrel
    by_cases hlt : k < n1
    · obtain ⟨y, hy⟩ : ∃ y, xs[k]? = some y := ⟨xs[k]'(by have := HN1.out; omega), List.getElem?_eq_getElem _⟩
      have yok := OKL.out y (List.mem_of_getElem? hy)
      obtain ⟨a1, rfl, _, hc⟩ := HC.out k y hy
      have d1 : w1.cell? ⟨(a1.add (k * 38)).block, (a1.add (k * 38)).off + 1, none⟩ = some (.string y.repo) := hc 1 _ (sl1 y)
      have d2 : w1.cell? ⟨(a1.add (k * 38)).block, (a1.add (k * 38)).off + 2, none⟩ = some (.string y.tag) := hc 2 _ (sl2 y)
      have d35 : w1.cell? ⟨(a1.add (k * 38)).block, (a1.add (k * 38)).off + 35, none⟩ = some (.string y.ty) := hc 35 _ (sl35 yok.dig.len)
      clear hc
      have z1 := yok.repo; have z2 := yok.tag; have z3 := yok.ty
      have HY := Lib.hid hy
      have HA := Lib.hid hall
      clear hy hall yok
      have lk : (k : Int) < (n1 : Int) := by omega
      by_cases h2 : 500 < y.repo.size
      · have l2 : (500 : Int) < (y.repo.size : Int) := by omega
        have e : r = true := by rw [← HR2.out, List.any_eq_true]; exact ⟨y, List.mem_of_getElem? HY.out, greatS_yes (.inl h2)⟩
        subst e
        go_wp2
        go_ret
        exact ⟨rfl, F⟩
      have l2 : ¬ (500 : Int) < (y.repo.size : Int) := by omega
      by_cases h3 : 500 < y.tag.size
      · have l3 : (500 : Int) < (y.tag.size : Int) := by omega
        have e : r = true := by rw [← HR2.out, List.any_eq_true]; exact ⟨y, List.mem_of_getElem? HY.out, greatS_yes (.inr (.inl h3))⟩
        subst e
        go_wp2
        go_ret
        exact ⟨rfl, F⟩
      have l3 : ¬ (500 : Int) < (y.tag.size : Int) := by omega
      by_cases h4 : 500 < y.ty.size
      · have l4 : (500 : Int) < (y.ty.size : Int) := by omega
        have e : r = true := by rw [← HR2.out, List.any_eq_true]; exact ⟨y, List.mem_of_getElem? HY.out, greatS_yes (.inr (.inr h4))⟩
        subst e
        go_wp2
        go_ret
        exact ⟨rfl, F⟩
      have l4 : ¬ (500 : Int) < (y.ty.size : Int) := by omega
      go_wp2
      go_roundw
      case rel => exact ⟨k + 1, trivial, by omega, by go_num, any_snoc HY.out (greatS_no h2 h3 h4) HA.out⟩
      case measure => simp [intOf]; omega
    · obtain rfl : k = n1 := by omega
      have e : r = false := by
        rw [← HR2.out, List.any_eq_false]
        intro z hz
        rw [hall z (by rw [List.take_of_length_le (by have := HN1.out; omega)]; exact hz)]
        simp
      subst e
      have lk : ¬ (k : Int) < (k : Int) := by omega
      go_wp2
      go_ret
      exact ⟨rfl, F⟩
end Go.Proofs.YtdmgobffhpgjlaaGreat.Sl.Dg
end

section
namespace Go.Proofs.YtdmgobffhpgjlaaGreat.Sl.Dg
open Go.RowKit Go.PlainAid Go.Proofs.YtdmgobffhpgjlaaGreat.Cr
open Go.Proofs.YtdmgobffhpgjlaaGreat.Pk (Bs Fi Dk kl HasD zone)
set_option linter.unusedVariables false
set_option maxRecDepth 20000
set_option linter.unusedSimpArgs false

section
variable {w0 w w' : World} {p q : Nat} {D D' : Dk} {L L' : Lg} {X : List (Nat × Obj)} {xs : List Sp} {j : Nat} {room N : Int}
theorem HasL.grown (h : HasL w0 w p q D L []) {row : Option Nat} (hg : w.grownBy w' row) (hr : ∀ k, row = some k → w0.heap.size ≤ k ∧ ∃ c fr, w.heap[k]? = some (.cells c 39 fr)) : HasL w0 w' p q D L [] := by
  obtain ⟨m, G, hd, z, hX⟩ := h.d.is
  have hq := hX _ (List.mem_cons_self ..)
  have nq : some q ≠ row := fun e => by
    obtain ⟨c, fr, hc⟩ := (hr q e.symm).2
    have := h.at.heap
    rw [hc] at this
    injection this with this
    injection this with _ this
    exact absurd this (by decide)
  have nz : ∀ b, zone p m G D.L b → some b ≠ row := fun b hb e => by
    obtain ⟨c, fr, hc⟩ := (hr b e.symm).2
    exact zone_type hd hc (by decide) (by decide) (by decide) hb
  refine ⟨⟨⟨m, G, hd.kept fun b hb => hg.block b (hd.lt hb) (nz b hb), z, fun x hx => ?_⟩, h.d.below.trans ⟨hg.os, hg.tape, hg.output, hg.size, fun b hb => hg.block b (Nat.lt_of_lt_of_le hb h.below.size) fun e => ?_⟩⟩, h.hq, by simp⟩
  · simp at hx
    subst hx
    exact ⟨by rw [hg.block q h.lt nq]; exact hq.1, hq.2⟩
  · have := (hr b e.symm).1
    omega
theorem HG.grown (h : HG w0 w p q xs j room N []) {row : Option Nat} (hg : w.grownBy w' row) (hr : ∀ k, row = some k → w0.heap.size ≤ k ∧ ∃ c fr, w.heap[k]? = some (.cells c 39 fr)) : HG w0 w' p q xs j room N [] := by
  obtain ⟨D, h1, h2⟩ := h.is
  exact ⟨D, h1.grown hg hr, h2⟩
/-- a slip of the law's own, below its rows -/
theorem At.grown {B T : Nat} {cs : Array Value} (h : At w B T cs) {row : Option Nat} (hg : w.grownBy w' row) (hr : ∀ k, row = some k → B < k) : At w' B T cs := by
  refine h.same (hg.block B h.lt fun e => ?_)
  have := hr B e.symm
  omega
/-- another log of the same disk was opened -/
theorem HG.other {q2 : Nat} (h : HG w0 w p q2 xs j room N [(q, dob p L)]) (hq : w0.heap.size ≤ q) : ∃ D, HasL w0 w p q D L [] ∧ Good D xs j room N := by
  obtain ⟨D, h1, h2⟩ := h.is
  exact ⟨D, ⟨h1.d.less fun x hx => List.mem_cons_of_mem _ hx, hq, by simp⟩, h2⟩
end

/-! ### faults -/
section
variable {D : Dk} {xs : List Sp} {j : Nat} {room N : Int}
end
end Go.Proofs.YtdmgobffhpgjlaaGreat.Sl.Dg
end

section
namespace Go.Proofs.YtdmgobffhpgjlaaGreat.Sl.Dg
open Go.RowKit Go.PlainAid Go.Proofs.YtdmgobffhpgjlaaGreat.Cr
open Go.Proofs.YtdmgobffhpgjlaaGreat.Pk (Bs Fi Dk kl HasD has_new KeepAt on_post zone DiskAt)
set_option linter.unusedVariables false
set_option maxRecDepth 20000
set_option linter.unusedSimpArgs false

theorem trod_int {H : Type} {enc : TypeId × Value → H} {P : Program} {w : World} {base : Nat} {spare : Nat → Bool} {held : Bool} {fuel : Nat} {t : TypeId} {cs : List Value} {x : DataW H × List MemPlace}
    (ht : P.underlying t = some (.int .i64)) (h : DataW.trod enc P w base spare held fuel t cs = some x) : ∃ n, cs = [.int .i64 n] := by
  cases fuel with
  | zero => simp [DataW.trod] at h
  | succ n =>
    unfold DataW.trod at h
    rw [ht] at h
    split at h <;> simp_all
section
variable {w0 w w' : World} {p q : Nat} {D D' : Dk} {L L' : Lg} {X : List (Nat × Obj)}
theorem arm_mild {xs : List Sp} {j : Nat} {room N : Int} (h : Mild D xs j room N) (a b c : Int) : Mild (D.arm a b c) xs j room N := by
  unfold Dk.arm
  split
  · exact ⟨h.l, h.j, h.r, h.n, h.can⟩
  · exact ⟨h.l, h.j, h.r, h.n, h.can⟩
end
end Go.Proofs.YtdmgobffhpgjlaaGreat.Sl.Dg
end

section
namespace Go.Proofs.YtdmgobffhpgjlaaGreat.Sl.Dg
open Go.RowKit Go.PlainAid Go.Proofs.YtdmgobffhpgjlaaGreat.Cr
open Go.Proofs.YtdmgobffhpgjlaaGreat.Pk (Bs Fi Dk kl HasD has_new KeepAt on_post)
set_option linter.unusedVariables false
set_option maxRecDepth 20000
set_option linter.unusedSimpArgs false

section
variable {D : Dk} {xs ys : List Sp} {j : Nat} {room N : Int}
theorem size_new (h : Good D xs j room N) : D.size nN = -1 := by
  unfold Dk.size
  rw [h.l, get_n1]
end
section
variable {w0 w w' : World} {p q : Nat} {D D' : Dk} {L L' : Lg} {X : List (Nat × Obj)} {xs : List Sp} {j : Nat} {room N : Int}
theorem arm_any (h : HasL w0 w p q D L X) (g : Mild D xs j room N) (hN : N ≤ 1000000) (pos kind more : Int) (hm : more ≤ 9223372036854775807) :
    Calls Tryz.prog 11 #[.pointer (some ⟨p, 0, none⟩), .int .i64 pos, .int .i64 kind, .int .i64 more] w fun e w' => e = .returned (.tuple #[]) ∧ (∃ E, HasL w0 w' p q E L X ∧ Mild E xs j room N) ∧ Kp w w' := by
  have := g.n
  exact (arm_has h (by omega) pos kind more hm).mono fun e w' ⟨a, b, c⟩ => ⟨a, ⟨_, b, arm_mild g pos kind more⟩, c⟩
theorem HG.new (h : HG w0 w p q xs j room N X) : Calls Tryz.prog 66 #[.pointer (some ⟨p, 0, none⟩), .string nS] w fun e w' => e = .returned (.int .i64 (-1)) ∧ w = w' := by
  obtain ⟨D, h1, h2⟩ := h.is
  have C := Pk.has_size h1.d (s := nS) (by decide)
  rw [kl_nS, size_new h2] at C
  exact C
end
end Go.Proofs.YtdmgobffhpgjlaaGreat.Sl.Dg
end

section
namespace Go.Proofs.YtdmgobffhpgjlaaGreat.Sl.Dg
open Go.RowKit Go.PlainAid Go.Proofs.YtdmgobffhpgjlaaGreat.Cr
open Go.Proofs.YtdmgobffhpgjlaaGreat.Pk (Bs Fi Dk kl HasD has_new KeepAt on_post)
set_option linter.unusedVariables false
set_option maxRecDepth 20000
set_option linter.unusedSimpArgs false

def xg : Sp := { Sp.zero with k := 5 }
/-- the rows that are there, ahead of M -/
structure KS (w0 z : World) (M B : Nat) (vf va : Value) (fs : List Sp) : Prop where
  x : At z B 39 (slV xg)
  f : z.ownsRow w0.heap.size 39 38 vf fs.length (slsL fs)
  a : z.ownsRow w0.heap.size 39 38 va (fs ++ [xg]).length (slsL (fs ++ [xg]))
  bel : Below w0.heap.size w0 z
  lt : B < M ∧ (∀ b, vf.ownBlock = some b → b < M) ∧ (∀ b, va.ownBlock = some b → b < M) ∧ w0.heap.size ≤ M ∧ M ≤ z.heap.size
section
variable {w0 z z' : World} {M B : Nat} {vf va : Value} {fs : List Sp}
theorem owns_grown {w w' : World} {N T sz n : Nat} {v : Value} {xs : List Value} {row : Option Nat} (h : w.ownsRow N T sz v n xs) (hg : w.grownBy w' row) (hv : ∀ b, v.ownBlock = some b → b < M) (hr : ∀ k, row = some k → M ≤ k) : w'.ownsRow N T sz v n xs := by
  refine h.kept hg ?_
  cases e : v.ownBlock with
  | none => exact .inl rfl
  | some b =>
    refine .inr fun e2 => ?_
    have := hv b e
    have := hr b e2.symm
    omega
theorem KS.below (h : KS w0 z M B vf va fs) (hb : Below z.heap.size z z') : KS w0 z' M B vf va fs :=
  ⟨h.x.old hb, owns_below h.f hb, owns_below h.a hb, h.bel.trans (hb.mono h.bel.size), h.lt.1, h.lt.2.1, h.lt.2.2.1, h.lt.2.2.2.1, Nat.le_trans h.lt.2.2.2.2 hb.size⟩
theorem KS.alloc (h : KS w0 z M B vf va fs) (o : Obj) : KS w0 (z.alloc o) M B vf va fs := h.below ((Below.refl _ _).alloc (Nat.le_refl _) o)
theorem KS.drew (h : KS w0 z M B vf va fs) : KS w0 z.drew M B vf va fs := h.below (Below.refl _ _).drew
theorem KS.grown (h : KS w0 z M B vf va fs) {row : Option Nat} (hg : z.grownBy z' row) (hr : ∀ k, row = some k → M ≤ k) : KS w0 z' M B vf va fs := by
  obtain ⟨l1, l2, l3, l4, l5⟩ := h.lt
  exact ⟨Dg.At.grown h.x hg fun k hk => by have := hr k hk; omega, owns_grown h.f hg l2 hr, owns_grown h.a hg l3 hr, h.bel.grown hg h.bel.size fun k hk => by have := hr k hk; omega, l1, l2, l3, l4, Nat.le_trans l5 hg.size⟩
end
section
variable {P : Program} {md : Region.Mode} {ops : Array Oper} {Q : Exit → Act → World → Prop} {S : World → Prop} {fuel : Nat} {listed : Array Bool} {a : Act} {w : World}
theorem held_two (i k : Nat) (hr : Region.ready md ops listed = [i, k])
    (h1 : ∀ K : Act → World → Prop, (∀ a w, S w → wpAnyH P md ops Q S fuel (listed.setIfInBounds i true) a w → K a w) → wpOp P ops Q i K a w)
    (h2 : ∀ K : Act → World → Prop, (∀ a w, S w → wpAnyH P md ops Q S fuel (listed.setIfInBounds k true) a w → K a w) → wpOp P ops Q k K a w) : wpAnyH P md ops Q S (fuel + 1) listed a w := by
  refine wpAnyH_all hr (by simp) ?_
  intro j hj
  rcases List.mem_cons.1 hj with rfl | hj
  · exact h1 _ fun _ _ hs h => ⟨hs, h⟩
  · simp at hj
    subst hj
    exact h2 _ fun _ _ hs h => ⟨hs, h⟩
end
section
variable {o : Oper} {a : Act} {w : World} {K : Act → World → Prop} {Q : Exit → Act → World → Prop} {x s : Operand} {t : Sp}
theorem op_built1 (ht : Okay t) (ho : o.op = .buildSlice 29 1 #[(0, x)]) (hx : a.eval x = .agg (slV t))
    (h : K (a.put o.dst (.slice (some ⟨w.heap.size, 0, none⟩) 1 1)) (w.alloc (.cells (slV t) 39))) : o.wp Tryz.prog a w K Q := by
  obtain ⟨i0, hi, hz0, hz1, hz2⟩ := info_parts infoSl
  refine wp_buildSlice 29 39 1 #[(0, x)] ho _ i0 (.agg #[.int .i64 0, .string ⟨#[]⟩, .string ⟨#[]⟩, .int .u8 0, .int .u8 0, .int .u8 0, .int .u8 0, .int .u8 0, .int .u8 0, .int .u8 0, .int .u8 0, .int .u8 0, .int .u8 0, .int .u8 0, .int .u8 0, .int .u8 0, .int .u8 0, .int .u8 0, .int .u8 0, .int .u8 0, .int .u8 0, .int .u8 0, .int .u8 0, .int .u8 0, .int .u8 0, .int .u8 0, .int .u8 0, .int .u8 0, .int .u8 0, .int .u8 0, .int .u8 0, .int .u8 0, .int .u8 0, .int .u8 0, .int .u8 0, .string ⟨#[]⟩, .int .i64 0, .int .i64 0]) Tryz.underlying29 hi hz0 (by rw [hz1]; decide) (by rw [hz1]; decide) ?_ h
  rw [hz1]
  have e : (#[(0, x)].map fun (i, x) => (i, a.eval x)).toList = (([Value.agg (slV t)].zipIdx 0).map fun x => (x.2, x.1)) := by
    simp [hx]
  rw [e, Great.fill_whole (s := 38) (by decide) [.agg (slV t)] _ (by intro v hv; simp at hv; subst hv; exact slV_size ht.dig.len) (by simp)]
  simp [Value.cells]
theorem op_append_none {M n : Nat} {v : Value} {xs : List Value} (ho : o.op = .call { callee := .builtin .append, args := #[s, x], argTypes := #[29, 29] }) (hs : a.eval s = v) (own : w.ownsRow M 39 38 v n xs)
    (hx : a.eval x = .slice none 0 0) (h : K (a.put o.dst v) w) : o.wp Tryz.prog a w K Q := by
  obtain ⟨i0, hi, hz0, hz1, hz2⟩ := info_parts infoSl
  have hrun := run_append_owned_none (P := Tryz.prog) (w := w) M 29 o.type 39 i0 38 Tryz.underlying29 hi v n xs own
  unfold Oper.wp
  simp [execOp, ho, resolve, invoke, builtin, hs, hx, hrun, Result.andThen]
  exact h
end
theorem slsL_one (fs : List Sp) : ∀ u ∈ slsL fs, u.oneCell' = true := by
  intro u hu
  simp only [slsL, List.mem_flatten, List.mem_map] at hu
  obtain ⟨l, ⟨x, _, rfl⟩, hu⟩ := hu
  exact slL_one x u hu
end Go.Proofs.YtdmgobffhpgjlaaGreat.Sl.Dg
end
