/-
  A log of which all is known, on a disk that doesn't fail, or that may: what its calls make of it.
  Rows of one and of two slips that are typed out; touch.
  The laws' first look: answers that the document fixes by number.
-/
import Derived.Test.YtdmgobffhpgjlaaGreatDgA
import Derived.Test.YtdmgobffhpgjlaaGreatDgC
section
namespace Go.Proofs.YtdmgobffhpgjlaaGreat.Sl.Dg
open Go.RowKit Go.PlainAid Go.Proofs.YtdmgobffhpgjlaaGreat.Cr
open Go.Proofs.YtdmgobffhpgjlaaGreat.Pk (Bs Fi Dk kl HasD has_off has_on1 has_on has_arm has_new on_post KeepAt)
set_option linter.unusedVariables false
set_option maxRecDepth 20000
set_option linter.unusedSimpArgs false

def lgOf (xs : List Sp) (j : Nat) (k : Bool) : Lg := ⟨(xs.length : Int), ((recs xs).length : Int), (j : Int), k⟩
/-- the disk has just the log's file, with these slips, the first j of them safe -/
structure Mild (D : Dk) (xs : List Sp) (j : Nat) (room N : Int) : Prop where
  l : D.L = oneD (recsB xs) (recs (xs.take j)).length
  j : j ≤ xs.length
  r : D.room = room
  n : D.ops ≤ N
  can : ∀ x ∈ xs, Can x
structure Good (D : Dk) (xs : List Sp) (j : Nat) (room N : Int) : Prop extends Mild D xs j room N where
  calm : Calm D
section
variable {D : Dk} {xs ys : List Sp} {j : Nat} {room N : Int}
theorem Mild.up (h : Mild D xs j room N) {M : Int} (hM : N ≤ M) : Mild D xs j room M := ⟨h.l, h.j, h.r, Int.le_trans h.n hM, h.can⟩
theorem Good.up (h : Good D xs j room N) {M : Int} (hM : N ≤ M) : Good D xs j room M := ⟨h.toMild.up hM, h.calm⟩
theorem Mild.fits (h : Mild D xs j room N) (hl : xs.length ≤ 1000) (k : Bool) : (lgOf xs j k).Fits := by
  have h1 := recs_len_le h.can
  have h2 := h.j
  exact ⟨by simp [lgOf]; omega, by simp [lgOf]; omega, by simp [lgOf]; omega⟩
theorem take_app (x : Sp) (hj : j ≤ xs.length) : (xs ++ [x]).take j = xs.take j := List.take_append_of_le_length hj
theorem recs_app_len (x : Sp) : (recs (xs ++ [x])).length = (recs xs).length + (recB x).length := by
  rw [recs_append, recs_one, List.length_append]
  show _ = _ + (u8 (recL (bodyL x))).length
  rw [u8_len]
theorem can_app {x : Sp} (hc : ∀ y ∈ xs, Can y) (hx : Can x) : ∀ y ∈ xs ++ [x], Can y := by
  intro y hy
  rcases List.mem_append.1 hy with c | c
  · exact hc y c
  · simp at c; subst c; exact hx
theorem lgOf_snoc (x : Sp) (k : Bool) : ({ lgOf xs j k with n := (lgOf xs j k).n + 1, b := (lgOf xs j k).b + ((recB x).length : Int) } : Lg) = lgOf (xs ++ [x]) j k := by
  simp [lgOf, recs_app_len]
theorem room_ok (hc : ∀ y ∈ xs, Can y) (hl : xs.length ≤ 100) {x : Sp} (hx : Can x) (hr : 65536 ≤ room) : (((recsB xs).length + (recB x).length : Nat) : Int) ≤ room := by
  have h1 := recs_len_le hc
  have h2 := (recB_len hx).2
  rw [recsB_len]
  omega
theorem good_add (h : Good D xs j room N) {x : Sp} (hx : Can x) (hl : xs.length ≤ 100) (hr : 65536 ≤ room) : ∃ E, addL D (lgOf xs j false) x = (0, E, lgOf (xs ++ [x]) j false) ∧ Good E (xs ++ [x]) j room (N + 1) := by
  have h1 := append_calm (s := recB x) h.calm h.l (by rw [h.r]; exact room_ok h.can hl hx hr)
  refine ⟨{ D with ops := D.ops + 1, L := oneD (recsB xs ++ recB x) (recs (xs.take j)).length }, by rw [addL_ok rfl hx (by rw [h1]), h1, lgOf_snoc], ⟨?_, ?_, h.r, ?_, can_app h.can hx⟩, h.calm.tick 1 _⟩
  · rw [take_app x h.j, recsB_snoc]
  · have := h.j
    rw [List.length_append]
    omega
  · have := h.n
    simp only
    omega
theorem take_all (xs : List Sp) : xs.take xs.length = xs := List.take_length
theorem good_sync (h : Good D xs j room N) : ∃ E, syncL D (lgOf xs j false) = (0, E, lgOf xs xs.length false) ∧ Good E xs xs.length room (N + 1) := by
  by_cases c : j = xs.length
  · subst c
    exact ⟨D, syncL_none rfl rfl, h.up (by omega)⟩
  · have h1 := sync_calm h.calm h.l
    refine ⟨{ D with ops := D.ops + 1, L := oneD (recsB xs) (recsB xs).length }, by rw [syncL_ok rfl (by simp [lgOf]; omega) (by rw [h1]), h1]; rfl, ⟨by rw [take_all, recsB_len], Nat.le_refl _, h.r, ?_, h.can⟩, h.calm.tick 1 _⟩
    have := h.n
    simp only
    omega
theorem new_load (hr : 0 ≤ room ∧ room ≤ 4194304) : ∃ E, load (Dk.new room) = (recsB [], 0, E) ∧ Good E [] 0 room 3 := by
  have hc : Calm (Dk.new room) := ⟨rfl, .inl rfl⟩
  refine ⟨{ Dk.new room with ops := (Dk.new room).ops + 3, L := oneD [] 0 }, load_new hc rfl, ⟨rfl, Nat.le_refl _, ?_, ?_, by simp⟩, hc.tick 3 _⟩
  · simp [Dk.new]; omega
  · simp [Dk.new]
theorem read_back (hc : ∀ x ∈ xs, Can x) {zs : List Sp} {n : Nat} (h : Reads (nb (recsB xs)) zs n) : zs = xs ∧ n = (recs xs).length := by
  rw [nb_recs hc] at h
  exact reads_one h (reads_all hc)
theorem lgOf_read {n : Nat} (hn : n = (recs xs).length) : (⟨(xs.length : Int), (n : Int), (xs.length : Int), decide (n < (recsB xs).length)⟩ : Lg) = lgOf xs xs.length false := by
  subst hn
  simp [lgOf, recsB_len]
end

/-! ### the calls -/
section
variable {w0 w w' : World} {p q : Nat} {D D' : Dk} {L L' : Lg} {X : List (Nat × Obj)} {xs ys : List Sp} {j : Nat} {room N : Int}
/-- the law's own disk and log -/
structure HG (w0 w : World) (p q : Nat) (xs : List Sp) (j : Nat) (room N : Int) (X : List (Nat × Obj)) : Prop where
  is : ∃ D, HasL w0 w p q D (lgOf xs j false) X ∧ Good D xs j room N
theorem HG.kept (h : HG w0 w p q xs j room N X) (hb : Below w.heap.size w w') : HG w0 w' p q xs j room N X := by
  obtain ⟨D, h1, h2⟩ := h.is
  exact ⟨D, h1.kept hb, h2⟩
theorem HG.below (h : HG w0 w p q xs j room N X) : Below w0.heap.size w0 w := by
  obtain ⟨D, h1, h2⟩ := h.is
  exact h1.below
theorem HG.up (h : HG w0 w p q xs j room N X) {M : Int} (hM : N ≤ M) : HG w0 w p q xs j room M X := by
  obtain ⟨D, h1, h2⟩ := h.is
  exact ⟨D, h1, h2.up hM⟩
theorem add_good (h : HG w0 w p q xs j room N X) {x : Sp} (hx : Can x) (hl : xs.length ≤ 100) (hr : 65536 ≤ room) (hN : N ≤ 1000000) :
    Calls Tryz.prog 21 #[.pointer (some ⟨q, 0, none⟩), .agg (slV x)] w fun e w' => e = .returned (.int .i64 0) ∧ HG w0 w' p q (xs ++ [x]) j room (N + 1) X ∧ Kp w w' := by
  obtain ⟨D, h1, h2⟩ := h.is
  obtain ⟨E, h3, h4⟩ := good_add h2 hx hl hr
  have := h2.n
  have C := add_any h1 (by omega) (h2.fits (by omega) _) x (can_okay hx)
  rw [h3] at C
  exact C.mono fun e w' ⟨a, b, c⟩ => ⟨a, ⟨E, b, h4⟩, c⟩
theorem sync_good (h : HG w0 w p q xs j room N X) (hN : N ≤ 1000000) :
    Calls Tryz.prog 23 #[.pointer (some ⟨q, 0, none⟩)] w fun e w' => e = .returned (.int .i64 0) ∧ HG w0 w' p q xs xs.length room (N + 1) X ∧ Kp w w' := by
  obtain ⟨D, h1, h2⟩ := h.is
  obtain ⟨E, h3, h4⟩ := good_sync h2
  have := h2.n
  have C := sync_any h1 (by omega)
  rw [h3] at C
  exact C.mono fun e w' ⟨a, b, c⟩ => ⟨a, ⟨E, b, h4⟩, c⟩
/-- what an Open finds, where it finds all -/
def FoundPost (w0 w : World) (p : Nat) (xs : List Sp) (room N : Int) (X : List (Nat × Obj)) (e : Ending) (w' : World) : Prop :=
  ∃ (q : Nat) (g : Option Addr) (cap : Nat), e = .returned (.tuple #[.pointer (some ⟨q, 0, none⟩), .slice g xs.length cap, .int .i64 0]) ∧ w'.ownsRow w0.heap.size 39 38 (.slice g xs.length cap) xs.length (slsL xs) ∧ HG w0 w' p q xs xs.length room N X ∧ Kp w w'
theorem owns_slice {w : World} {B T sz n : Nat} {v : Value} {l : List Value} (h : w.ownsRow B T sz v n l) : ∃ g cap, v = .slice g n cap := by
  rcases h.2 with ⟨rfl, e⟩ | ⟨g, cap, cur, rfl, _⟩
  · exact ⟨none, 0, by rw [e]⟩
  · exact ⟨_, cap, rfl⟩
theorem open_found (h : HasD w0 w p D X) (ho : D.ops + 5 ≤ 1099511627776) {E : Dk} (hE : load D = (recsB xs, 0, E)) (g : Good E xs xs.length room N) :
    Calls Tryz.prog 7 #[.pointer (some ⟨p, 0, none⟩)] w fun e w' => FoundPost w0 w p xs room N X e w' := by
  refine (open_any h ho).mono ?_
  rintro e w' (⟨c, _⟩ | ⟨_, q, v, zs, n, rfl, rd, ok, own, hl, k⟩)
  · rw [hE] at c
    exact absurd rfl c
  · rw [hE] at rd hl
    obtain ⟨rfl, hn⟩ := read_back g.can rd
    obtain ⟨g', cap, rfl⟩ := owns_slice own
    simp only at hl
    rw [lgOf_read hn] at hl
    exact ⟨q, g', cap, rfl, own, ⟨_, hl, g⟩, k⟩
theorem open_new (h : HasD w0 w p (Dk.new room) X) (hr : 0 ≤ room ∧ room ≤ 4194304) :
    Calls Tryz.prog 7 #[.pointer (some ⟨p, 0, none⟩)] w fun e w' => FoundPost w0 w p [] room 3 X e w' := by
  obtain ⟨E, h3, h4⟩ := new_load hr
  exact open_found h (by simp [Dk.new]) h3 h4
theorem HG.len (h : HG w0 w p q xs j room N X) : Calls Tryz.prog 27 #[.pointer (some ⟨q, 0, none⟩)] w fun e w' => e = .returned (.int .i64 (xs.length : Int)) ∧ w = w' := by
  obtain ⟨D, h1, h2⟩ := h.is
  exact len_has h1
theorem HG.bytes (h : HG w0 w p q xs j room N X) : Calls Tryz.prog 29 #[.pointer (some ⟨q, 0, none⟩)] w fun e w' => e = .returned (.int .i64 ((recs xs).length : Int)) ∧ w = w' := by
  obtain ⟨D, h1, h2⟩ := h.is
  exact bytes_has h1
/-- the power goes, and comes -/
theorem off_has (h : HasD w0 w p D X) : Calls Tryz.prog 13 #[.pointer (some ⟨p, 0, none⟩)] w fun e w' => e = .returned (.tuple #[]) ∧ HasD w0 w' p D.offd X ∧ Kp w w' :=
  dframe h (R := fun e _ => e = .returned (.tuple #[])) fun X h => has_off h
theorem on1_has (h : HasD w0 w p D X) (x : Int) : Calls Tryz.prog 15 #[.pointer (some ⟨p, 0, none⟩), .slice (some ⟨w.heap.size, 0, none⟩) 1 1] (w.alloc (.cells #[.int .i64 x] 3)) fun e w' => e = .returned (.tuple #[]) ∧ HasD w0 w' p (D.on [x]) X ∧ Kp w w' :=
  (has_on1 (has_slips h) x).mono fun e w' ⟨r, h'⟩ => ⟨r, h'.less fun x hx => List.mem_append_right _ hx, kp_of h'⟩
theorem arm_has (h : HasL w0 w p q D L X) (ho : D.ops ≤ 1099511627776) (pos kind more : Int) (hm : more ≤ 9223372036854775807) :
    Calls Tryz.prog 11 #[.pointer (some ⟨p, 0, none⟩), .int .i64 pos, .int .i64 kind, .int .i64 more] w fun e w' => e = .returned (.tuple #[]) ∧ HasL w0 w' p q (D.arm pos kind more) L X ∧ Kp w w' :=
  h.frame (R := fun e _ => e = .returned (.tuple #[])) fun X h => (has_arm h.d ho pos kind more hm).mono fun e w' ⟨r, h'⟩ => ⟨r, h', h.hq, h.hx⟩
end
end Go.Proofs.YtdmgobffhpgjlaaGreat.Sl.Dg
end

section
namespace Go.Proofs.YtdmgobffhpgjlaaGreat.Sl.Dg
open Go.RowKit Go.PlainAid Go.Proofs.YtdmgobffhpgjlaaGreat.Cr
open Go.Proofs.YtdmgobffhpgjlaaGreat.Pk (Bs Fi Dk kl HasD)
set_option linter.unusedVariables false
set_option maxRecDepth 20000
set_option linter.unusedSimpArgs false

theorem slsL_len : ∀ {xs : List Sp}, (∀ x ∈ xs, Okay x) → (slsL xs).length = xs.length * 38
  | [], _ => rfl
  | x :: xs, h => by
    have h1 := slsL_len (xs := xs) fun y hy => h y (by simp [hy])
    have h2 := slL_len (h x (by simp)).dig.len
    simp only [slsL, List.map_cons, List.flatten_cons, List.length_append, List.length_cons] at h1 ⊢
    omega
theorem made_owns (w : World) {xs : List Sp} (ok : ∀ x ∈ xs, Okay x) (hl : xs.length ≤ 1000) {B : Nat} (hB : B ≤ w.heap.size) : (w.alloc (.cells (slsL xs).toArray 39)).ownsRow B 39 38 (.slice (some ⟨w.heap.size, 0, none⟩) xs.length xs.length) xs.length (slsL xs) :=
  ⟨slsL_len ok, .inr ⟨w.heap.size, xs.length, _, rfl, hB, heap_alloc_new w _, Nat.le_refl _, by unfold maxLen; omega, by simp [slsL_len ok], by rw [List.take_of_length_le]; simp [slsL_len ok]⟩⟩
theorem made_sls (w : World) {xs : List Sp} (ok : ∀ x ∈ xs, Okay x) (hl : xs.length ≤ 1000) : SlsAt (w.alloc (.cells (slsL xs).toArray 39)) (.slice (some ⟨w.heap.size, 0, none⟩) xs.length xs.length) xs :=
  owns_sls (made_owns w ok hl (Nat.le_refl _)) ok
section
variable {ops : Array Oper} {rest : List Oper} {o : Oper} {a : Act} {w : World} {Q : Exit → Act → World → Prop} {x y : Operand} {s t : Sp}
theorem wpl_built1 (hs : Okay s) (hw : Region.wanted o (yielded ops a.tmps) = true) (ho : o.op = .buildSlice 29 1 #[(0, x)]) (hx : a.eval x = .agg (slV s))
    (h : wpList Tryz.prog ops Q rest (a.put o.dst (.slice (some ⟨w.heap.size, 0, none⟩) 1 1)) (w.alloc (.cells (slsL [s]).toArray 39))) : wpList Tryz.prog ops Q (o :: rest) a w := by
  obtain ⟨i0, hi, hz0, hz1, hz2⟩ := info_parts infoSl
  refine wpList_step fun K hK => ?_
  rw [if_pos hw]
  refine wp_buildSlice 29 39 1 #[(0, x)] ho _ i0 (.agg #[.int .i64 0, .string ⟨#[]⟩, .string ⟨#[]⟩, .int .u8 0, .int .u8 0, .int .u8 0, .int .u8 0, .int .u8 0, .int .u8 0, .int .u8 0, .int .u8 0, .int .u8 0, .int .u8 0, .int .u8 0, .int .u8 0, .int .u8 0, .int .u8 0, .int .u8 0, .int .u8 0, .int .u8 0, .int .u8 0, .int .u8 0, .int .u8 0, .int .u8 0, .int .u8 0, .int .u8 0, .int .u8 0, .int .u8 0, .int .u8 0, .int .u8 0, .int .u8 0, .int .u8 0, .int .u8 0, .int .u8 0, .int .u8 0, .string ⟨#[]⟩, .int .i64 0, .int .i64 0]) Tryz.underlying29 hi hz0 (by rw [hz1]; decide) (by rw [hz1]; decide) ?_ (hK _ _ h)
  rw [hz1]
  have e : (#[(0, x)].map fun (i, x) => (i, a.eval x)).toList = (([Value.agg (slV s)].zipIdx 0).map fun x => (x.2, x.1)) := by
    simp [hx]
  rw [e, Great.fill_whole (s := 38) (by decide) [.agg (slV s)] _ (by intro v hv; simp at hv; subst hv; exact slV_size hs.dig.len) (by simp)]
  simp [Value.cells, slsL, slV]
theorem wpl_built2 (hs : Okay s) (ht : Okay t) (hw : Region.wanted o (yielded ops a.tmps) = true) (ho : o.op = .buildSlice 29 2 #[(0, x), (1, y)]) (hx : a.eval x = .agg (slV s)) (hy : a.eval y = .agg (slV t))
    (h : wpList Tryz.prog ops Q rest (a.put o.dst (.slice (some ⟨w.heap.size, 0, none⟩) 2 2)) (w.alloc (.cells (slsL [s, t]).toArray 39))) : wpList Tryz.prog ops Q (o :: rest) a w := by
  obtain ⟨i0, hi, hz0, hz1, hz2⟩ := info_parts infoSl
  refine wpList_step fun K hK => ?_
  rw [if_pos hw]
  refine wp_buildSlice 29 39 2 #[(0, x), (1, y)] ho _ i0 (.agg #[.int .i64 0, .string ⟨#[]⟩, .string ⟨#[]⟩, .int .u8 0, .int .u8 0, .int .u8 0, .int .u8 0, .int .u8 0, .int .u8 0, .int .u8 0, .int .u8 0, .int .u8 0, .int .u8 0, .int .u8 0, .int .u8 0, .int .u8 0, .int .u8 0, .int .u8 0, .int .u8 0, .int .u8 0, .int .u8 0, .int .u8 0, .int .u8 0, .int .u8 0, .int .u8 0, .int .u8 0, .int .u8 0, .int .u8 0, .int .u8 0, .int .u8 0, .int .u8 0, .int .u8 0, .int .u8 0, .int .u8 0, .int .u8 0, .string ⟨#[]⟩, .int .i64 0, .int .i64 0]) Tryz.underlying29 hi hz0 (by rw [hz1]; decide) (by rw [hz1]; decide) ?_ (hK _ _ h)
  rw [hz1]
  have e : (#[(0, x), (1, y)].map fun (i, x) => (i, a.eval x)).toList = (([Value.agg (slV s), .agg (slV t)].zipIdx 0).map fun x => (x.2, x.1)) := by
    simp [hx, hy]
  rw [e, Great.fill_whole (s := 38) (by decide) [.agg (slV s), .agg (slV t)] _ (by intro v hv; simp at hv; rcases hv with rfl | rfl; exact slV_size hs.dig.len; exact slV_size ht.dig.len) (by simp)]
  simp [Value.cells, slsL, slV]
end

/-! ### touch -/
def tch (n : Nat) : Sp := ⟨6, none8, none8, n :: List.replicate 31 0, none8, 0, 0⟩
theorem tch_dig {n : Nat} (h : n < 256) : Dig (n :: List.replicate 31 0) := ⟨by simp, by intro b hb; simp at hb; omega⟩
theorem tch_can {n : Nat} (h : n < 256) : Can (tch n) := ⟨by simp [tch], by simp [tch, hT], fun _ => ⟨rfl, rfl⟩, by simp [tch, hD], fun _ => ⟨rfl, rfl⟩, fun _ => rfl, by first | decide | (simp [tch]; done) | (simp [tch]; decide), by first | decide | (simp [tch]; done) | (simp [tch]; decide), by first | decide | (simp [tch]; done) | (simp [tch]; decide), tch_dig h⟩
theorem tch_len (n : Nat) : (recL (bodyL (tch n))).length = 39 := by
  rw [rec_len]
  simp [bodyL, tch, be, be_len, pT, pD, pM, pA, hT, hD, hM, hA]
set_option maxHeartbeats 4000000 in
theorem touch_any (n : Nat) (w : World) (hn : n = 1 ∨ n = 2 ∨ n = 3 ∨ n = 4 ∨ n = 7) :
    Calls Tryz.prog 35 #[.int .i64 (n : Int)] w fun e w' => e = .returned (.agg (slV (tch n))) ∧ Below w.heap.size w w' := by
  have hd : (tch n).dig.length = 32 := by simp [tch]
  obtain ⟨X, S1, A1, F1, _⟩ := x_keep w hd
  have R : ∀ f : Func, f = Tryz.f35 → ∀ tmps : Array Value, tmps.getD 2 undef = .pointer (some ⟨w.heap.size, 0, none⟩) → (results f tmps).run Tryz.prog X = .ok (.agg (slV (tch n))) X := fun f hf tmps ht => by
    subst hf
    exact results_cell_row Tryz.results35 _ _ w.heap.size 39 (slV (tch n)) (0, 0) _ ht A1.heap Tryz.underlying39 rfl (by rw [slV_size hd]; kernel_rfl)
  have HR := Lib.hid R
  clear R A1
  rcases hn with rfl | rfl | rfl | rfl | rfl
  all_goals
    go_enter Tryz.func35, Tryz.ntmps35
    go_wp2_with (refine wpl_store S1 rfl rfl rfl rfl rfl ?_)
    exact bodyPost_ret (HR.out _ rfl _ rfl) rfl ⟨rfl, F1⟩
end Go.Proofs.YtdmgobffhpgjlaaGreat.Sl.Dg
end

section
namespace Go.Proofs.YtdmgobffhpgjlaaGreat.Sl.Dg
open Go.RowKit Go.PlainAid Go.Proofs.YtdmgobffhpgjlaaGreat.Cr
open Go.Proofs.YtdmgobffhpgjlaaGreat.Pk (Bs Fi Dk kl HasD has_new onL onL_some)
set_option linter.unusedVariables false
set_option maxRecDepth 20000
set_option linter.unusedSimpArgs false

def ts2 : List Sp := [tch 1, tch 2]
def ts3 : List Sp := [tch 1, tch 2, tch 3]
theorem ts2_can : ∀ x ∈ ts2, Can x := by
  intro x hx
  simp [ts2] at hx
  rcases hx with rfl | rfl <;> exact tch_can (by decide)
theorem ts3_can : ∀ x ∈ ts3, Can x := by
  intro x hx
  simp [ts3] at hx
  rcases hx with rfl | rfl | rfl <;> exact tch_can (by decide)
theorem ts2_len : (recs ts2).length = 78 := by simp [recs, ts2, tch_len]
theorem ts3_len : (recs ts3).length = 117 := by simp [recs, ts3, tch_len]
theorem ts3_app : recs ts3 = recs ts2 ++ recL (bodyL (tch 3)) := by simp [recs, ts3, ts2]
theorem ts3_cut : (recs ts3).take 83 = recs ts2 ++ (recL (bodyL (tch 3))).take 5 := by
  rw [ts3_app, List.take_append, List.take_of_length_le (by rw [ts2_len]; decide), ts2_len]
theorem ts_reads : Reads (nb ((recsB ts3).take 83)) ts2 78 := by
  rw [nb_take, nb_recs ts3_can, ts3_cut]
  have := reads_recs (xs := ts2) (t := (recL (bodyL (tch 3))).take 5) ts2_can (by rw [rd_cut (tch_can (by decide)) (by rw [tch_len]; decide)]; decide)
  rw [ts2_len] at this
  exact this
theorem ts_on {D : Dk} {N : Int} (h : Mild D ts3 2 65536 N) : (D.offd.on [5]).L = oneD ((recsB ts3).take 83) 83 := by
  have h1 : (recs (ts3.take 2)).length = 78 := ts2_len
  have h2 : (recsB ts3).length = 117 := by rw [recsB_len, ts3_len]
  rw [on_eq, h.l]
  show onL [5] [⟨dN, recsB ts3, (recs (ts3.take 2)).length⟩] = _
  rw [h1, onL_some (f := ⟨dN, recsB ts3, 78⟩) (by simp only; omega), onL]
  simp only [h2]
  rfl
theorem ts_load {D : Dk} {N : Int} (h : Mild D ts3 2 65536 N) : ∃ E, load (D.offd.on [5]) = ((recsB ts3).take 83, 0, E) ∧ Calm E ∧ E.L = oneD ((recsB ts3).take 83) 83 ∧ E.room = 65536 ∧ E.ops ≤ N + 2 := by
  have h1 := ts_on h
  obtain ⟨r1, r2⟩ := on_room D [5]
  have h2 : ((recsB ts3).take 83).length = 83 := by rw [List.length_take, recsB_len, ts3_len]; decide
  refine ⟨_, load_one (on_calm D [5]) h1, (on_calm D [5]).tick 2 _, by simp only; rw [h2], by simp only; rw [r1, h.r], ?_⟩
  have := h.n
  simp only
  omega
theorem ts_rew {E : Dk} {L : Lg} {N : Int} (hc : Calm E) (hL : E.L = oneD ((recsB ts3).take 83) 83) (hr : E.room = 65536) (hn : E.ops ≤ N) : ∃ F, rewL E L [tch 7] = (0, F, ⟨1, 39, 1, false⟩) := by
  have h7 : (recs [tch 7]).length = 39 := by simp [recs, tch_len]
  obtain ⟨k, hk, h1⟩ := repl_one (s := recsB [tch 7]) hc hL (by rw [hr, List.length_take, recsB_len, recsB_len, ts3_len, h7]; decide)
  refine ⟨(repl E (recsB [tch 7])).2, ?_⟩
  rw [rewL_ok (allCan.2 (by intro x hx; simp at hx; subst hx; exact tch_can (by decide))) (by rw [h1]), recsB_len, h7]
  rfl
set_option maxRecDepth 100000 in
set_option maxHeartbeats 8000000 in
theorem awake_any (w : World) : Calls Tryz.prog 4 #[] w fun e w' => e = .returned (.bool true) ∧ Below w.heap.size w w' := by
  have C0 := has_new w (Below.refl _ _) 65536
  have ok1 : Okay (tch 1) := can_okay (tch_can (by decide))
  have ok2 : Okay (tch 2) := can_okay (tch_can (by decide))
  have ok7 : Okay (tch 7) := can_okay (tch_can (by decide))
  go_enter Tryz.func4, Tryz.ntmps4
  go_wp2_with fail
  refine C0.mono ?_
  rintro e w1 ⟨p, rfl, h⟩
  clear C0
  go_wp2_with fail
  refine (open_new h (by decide)).mono ?_
  rintro e w2 ⟨q, g, cap, rfl, _, hg, _⟩
  clear h
  simp only [List.length_nil] at hg ⊢
  go_wp2_with fail
  refine (touch_any 1 _ (by simp)).mono ?_
  rintro e w3 ⟨rfl, G⟩
  replace hg := hg.kept G
  clear G
  go_wp2_with fail
  refine (add_good hg (tch_can (by decide)) (by simp) (by decide) (by decide)).mono ?_
  rintro e w4 ⟨rfl, hg, _⟩
  go_wp2_with fail
  refine (touch_any 2 _ (by simp)).mono ?_
  rintro e w5 ⟨rfl, G⟩
  replace hg := hg.kept G
  clear G
  go_wp2_with fail
  refine (add_good hg (tch_can (by decide)) (by simp) (by decide) (by decide)).mono ?_
  rintro e w6 ⟨rfl, hg, _⟩
  go_wp2_with fail
  refine (sync_good hg (by decide)).mono ?_
  rintro e w7 ⟨rfl, hg, _⟩
  go_wp2_with fail
  refine (touch_any 3 _ (by simp)).mono ?_
  rintro e w8 ⟨rfl, G⟩
  replace hg := hg.kept G
  clear G
  go_wp2_with fail
  refine (add_good hg (tch_can (by decide)) (by simp) (by decide) (by decide)).mono ?_
  rintro e w9 ⟨rfl, hg, _⟩
  obtain ⟨D, h1, h2⟩ : ∃ D, HasD w w9 p D [] ∧ Mild D ts3 2 65536 8 := by
    obtain ⟨D, h1, h2⟩ := hg.is
    exact ⟨D, h1.disk, h2.toMild.up (by decide)⟩
  clear hg
  go_wp2_with fail
  refine (off_has h1).mono ?_
  rintro e w10 ⟨rfl, h, _⟩
  clear h1
  go_wp2_with fail
  refine (on1_has h 5).mono ?_
  rintro e w11 ⟨rfl, h3, _⟩
  clear h
  obtain ⟨r1, r2⟩ := on_room D [5]
  obtain ⟨E, hE, cE, lE, rE, nE⟩ := ts_load h2
  have hn := h2.n
  go_wp2_with fail
  refine (open_any h3 (by omega)).mono ?_
  rintro e w12 (⟨c, _⟩ | ⟨_, q2, v, zs, n, rfl, rd, ok, own, hl, _⟩)
  · rw [hE] at c
    exact absurd rfl c
  rw [hE] at rd hl
  obtain ⟨rfl, rfl⟩ := reads_one ts_reads rd
  have hb : decide (78 < ((recsB ts3).take 83).length) = true := by
    rw [List.length_take, recsB_len, ts3_len]
    rfl
  simp only [hb] at hl
  have sv := owns_sls own ok
  obtain ⟨g2, cap2, rfl⟩ := owns_slice own
  clear own rd ok hb h3 h2
  go_wp2_with fail
  refine (touch_any 1 _ (by simp)).mono ?_
  rintro e w13 ⟨rfl, G⟩
  replace hl := hl.kept G
  replace sv := sv.below G
  clear G
  go_wp2_with fail
  refine (touch_any 2 _ (by simp)).mono ?_
  rintro e w14 ⟨rfl, G⟩
  replace hl := hl.kept G
  replace sv := sv.below G
  clear G
  have sm := made_sls w14 (xs := [tch 1, tch 2]) (by intro x hx; simp at hx; rcases hx with rfl | rfl; exact ok1; exact ok2) (by decide)
  replace hl := hl.alloc (.cells (slsL [tch 1, tch 2]).toArray 39)
  replace sv := sv.below ((Below.refl _ _).alloc (Nat.le_refl _) (.cells (slsL [tch 1, tch 2]).toArray 39))
  have SM := same_any sv sm (by decide) (by decide)
  rw [sameB_yes (show ts2 = [tch 1, tch 2] from rfl)] at SM
  clear sv sm
  go_wp2_with (with_reducible refine wpl_built2 ok1 ok2 ?_ rfl ?_ ?_ ?_; (· kernel_rfl); (· kernel_rfl); (· kernel_rfl))
  refine SM.mono ?_
  rintro e w15 ⟨rfl, G⟩
  clear SM
  replace hl := hl.kept G
  clear G
  go_wp2_with fail
  refine (sick_has hl).mono ?_
  rintro e w16 ⟨rfl, rfl⟩
  go_wp2_with fail
  refine (touch_any 4 _ (by simp)).mono ?_
  rintro e w17 ⟨rfl, G⟩
  replace hl := hl.kept G
  clear G
  have A := add_any hl (by omega) ⟨by simp; decide, by simp, by simp; decide⟩ (tch 4) (can_okay (tch_can (by decide)))
  rw [addL_sick _ rfl] at A
  go_wp2_with fail
  refine A.mono ?_
  rintro e w18 ⟨rfl, hl, _⟩
  clear A
  go_wp2_with fail
  refine (touch_any 7 _ (by simp)).mono ?_
  rintro e w19 ⟨rfl, G⟩
  replace hl := hl.kept G
  clear G
  replace hl := hl.alloc (.cells (slsL [tch 7]).toArray 39)
  have sm := made_sls w19 (xs := [tch 7]) (by intro x hx; simp at hx; rcases hx with rfl; exact ok7) (by decide)
  have RW := rewrite_any hl (by omega) sm (by decide)
  obtain ⟨F, hF⟩ := ts_rew (L := ⟨(ts2.length : Int), ((78 : Nat) : Int), (ts2.length : Int), true⟩) cE lE rE nE
  rw [hF] at RW
  clear sm hF
  go_wp2_with (with_reducible refine wpl_built1 ok7 ?_ rfl ?_ ?_; (· kernel_rfl); (· kernel_rfl))
  refine RW.mono ?_
  rintro e w20 ⟨rfl, hl, _⟩
  clear RW
  go_wp2_with fail
  refine (sick_has hl).mono ?_
  rintro e w21 ⟨rfl, rfl⟩
  go_wp2_with fail
  refine (len_has hl).mono ?_
  rintro e w22 ⟨rfl, rfl⟩
  go_wp2_with fail
  refine (bytes_has hl).mono ?_
  rintro e w23 ⟨rfl, rfl⟩
  go_wp2_with fail
  refine (sure_has hl).mono ?_
  rintro e w24 ⟨rfl, rfl⟩
  go_wp2
  go_ret
  exact ⟨rfl, hl.below⟩
end Go.Proofs.YtdmgobffhpgjlaaGreat.Sl.Dg
end
