/-
  Contracts of the leaves of package inlet: New, Left, Add, and what a step of Next uses.
-/
import Derived.Test.YtdldoklkenhopaaGreatDoorInMem
import Derived.Test.YtdldoklkenhopaaGreatDoorSet5
namespace Go.Proofs.YtdldoklkenhopaaGreatDoor.In
open Go.RowKit Go.PlainAid
open Hx Fi Ch
set_option linter.unusedVariables false
set_option maxRecDepth 20000
set_option linter.unusedSimpArgs false

theorem wrongOf_any (e k : Int) (he : -9223372036854775808 ≤ e ∧ e ≤ 9223372036854775807) (w : World) :
    Calls Tryz.prog 37 #[.int .i64 e, .int .i64 k] w fun x w' => x = .returned (.int .i64 (if e = 4 then k else 400)) ∧ w = w' := by
  by_cases h : e = 4
  · subst h
    rw [if_pos rfl]
    go_enter Tryz.func37, Tryz.ntmps37
    go_wp2
    go_ret
    exact ⟨rfl, rfl⟩
  · rw [if_neg h]
    have g : (e == 4) = false := by rw [beq_eq_false_iff_ne]; exact h
    go_enter Tryz.func37, Tryz.ntmps37
    go_wp2
    go_ret
    exact ⟨rfl, rfl⟩
def c0 : I := ⟨0, 0, 0, 0, 0, [], q0, none⟩
theorem c0_is : IsAt c0 [] 0 := .head ⟨rfl, rfl, rfl, rfl, 0, rfl, Nat.zero_le _, spl_17_nil⟩
theorem new_any (w : World) :
    Calls Tryz.prog 7 #[] w fun e w' => e = .returned (.pointer (some ⟨w.heap.size, 0, none⟩)) ∧ Below w.heap.size w w' ∧ Has w' w.heap.size (fun b => b = w.heap.size) c0 := by
  have k : Has (w.alloc (.cells (inV c0 (.slice none 0 0) (.slice none 0 0) (.pointer none)) 52)) w.heap.size (fun b => b = w.heap.size) c0 :=
    ⟨.slice none 0 0, .slice none 0 0, .pointer none, fun _ => False, ⟨At.new w _ _, Win.nil _, none_fds _, ⟨rfl, fun _ h => h⟩, rfl, fun b hb => by simp [Value.ownBlock] at hb, fun b hb => absurd hb (FB.nil _ _), fun b hb => hb.elim, FB.nil _ _, fun h => h, fun b hb => by simp [Value.ownBlock] at hb, fun b hb => by simp [Value.ownBlock] at hb, fun b hb => absurd hb (FB.nil _ _), fun b hb => by simp; omega⟩⟩
  have B : ∀ o, Below w.heap.size w (w.alloc o) := fun o => (Below.refl _ _).alloc (Nat.le_refl _) _
  have K := Lib.hid k
  clear k
  go_enter Tryz.func7, Tryz.ntmps7
  go_wp2
  go_ret
  exact ⟨rfl, B _, K.out⟩
section
variable {w : World} {p : Nat} {Z : Nat → Prop} {c : I}
theorem left_any (h : Has w p Z c) {n : Nat} (hn : c.rd + (c.l2.length : Int) = (n : Int)) (h0 : 0 ≤ c.rd) (hm : n ≤ 1048576) :
    Calls Tryz.prog 56 #[.pointer (some ⟨p, 0, none⟩)] w fun e w' => e = .returned (.int .i64 (n : Int)) ∧ Below w.heap.size w w' := by
  obtain ⟨u, fv, ch, Zc, H⟩ := h
  obtain ⟨ou, ku, eu, _, _⟩ := H.row.form
  subst eu
  have d1 := H.c1
  have d3 := H.c3
  generalize c.rd = r at *
  generalize c.l2.length = m at *
  clear H
  have hw : IntKind.i64.wrap (r + (m : Int)) = (n : Int) := by rw [hn]; exact IntWalk.i64_in _ (by omega)
  go_enter Tryz.func56, Tryz.ntmps56
  go_upto_region 3 with (fail)
  go_quiet (fail)
  have BQ : Below w.heap.size w (w.drewN nq) := ⟨rfl, rfl, rfl, Nat.le_refl _, fun _ _ => rfl⟩
  generalize w.drewN nq = wq at *
  go_wp2
  go_ret
  exact ⟨rfl, BQ⟩
theorem left_nil (w : World) : Calls Tryz.prog 56 #[.pointer none] w fun e w' => e = .returned (.int .i64 0) ∧ w = w' := by
  go_enter Tryz.func56, Tryz.ntmps56
  go_wp2
  go_ret
  exact ⟨rfl, rfl⟩
theorem add_nil (s : ByteArray) (w : World) : Calls Tryz.prog 8 #[.pointer none, .string s] w fun e w' => e = .returned (.int .i64 2) ∧ w = w' := by
  go_enter Tryz.func8, Tryz.ntmps8
  go_wp2
  go_ret
  exact ⟨rfl, rfl⟩
theorem add_state (h : Has w p Z c) (s : ByteArray) (hc : c.wr ≠ 0) : Calls Tryz.prog 8 #[.pointer (some ⟨p, 0, none⟩), .string s] w fun e w' => e = .returned (.int .i64 8) ∧ w = w' := by
  obtain ⟨u, fv, ch, Zc, H⟩ := h
  have d := H.c10
  generalize c.wr = k at *
  clear H
  have g : (k != 0) = true := by rw [bne_iff_ne]; exact hc
  go_enter Tryz.func8, Tryz.ntmps8
  go_wp2
  go_ret
  exact ⟨rfl, rfl⟩
theorem win_len {w : World} {o : Option Addr} {n k : Nat} {l : List UInt8} (h : Win w (.slice o n k) l) : n = l.length := by
  obtain ⟨o', k', e, _⟩ := h.form
  injection e
theorem add_ok (h : Has w p Z c) (s : ByteArray) (hc : c.wr = 0) (hs : c.l2.length + s.size ≤ 16384) : Calls Tryz.prog 8 #[.pointer (some ⟨p, 0, none⟩), .string s] w fun e w' => e = .returned (.int .i64 0) ∧ Post w w' p Z { c with l2 := c.l2 ++ ls s } := by
  obtain ⟨u, fv, ch, Zc, H⟩ := h
  have d := H.c10
  rw [hc] at d
  obtain ⟨ou, ku, eu, _, _⟩ := H.row.form
  subst eu
  have d1 := H.c1
  have f1 : ∀ (w1 : World), w.grownBy w1 (Value.ownBlock (.slice ou c.l2.length ku)) → w1.frozen? ⟨p, 1, none⟩ = false ∧ w1.cell? ⟨p, 1, none⟩ = some (.slice ou c.l2.length ku) := fun w1 g => by
    have hh : w1.heap[p]? = w.heap[p]? := g.block p H.at_.lt (fun e => u_ne H e.symm rfl)
    exact ⟨(World.frozen?_of_block (a := ⟨p, 1, none⟩) hh).trans (H.fz 1), by rw [World.cell?_of_block (a := ⟨p, 1, none⟩) hh, d1]⟩
  have F := Lib.hid f1
  clear f1
  have R := H.row
  have key : ∀ (o' : Option Addr) (m' cap' : Nat) (w1 : World), Win w1 (.slice o' m' cap') (c.l2 ++ ls s) → w.grownBy w1 (Value.ownBlock (.slice ou c.l2.length ku)) → Lies w (.slice ou c.l2.length ku) (.slice o' m' cap') → Post w (w1.setCell ⟨p, 1, none⟩ (.slice o' m' cap')) p Z { c with l2 := c.l2 ++ ls s } := fun o' m' cap' w1 r g hl => by
    obtain ⟨a, b⟩ := H.app g r hl
    exact ⟨_, ⟨_, _, _, _, a⟩, b⟩
  have KEY := Lib.hid key
  clear key
  have hlen := Lib.hid (show c.l2.length + s.size ≤ 1099511627776 by omega)
  generalize c.l2.length = n at *
  have l1 : ((n : Int) + (s.size : Int)) ≤ 16384 := by omega
  have g1 : ¬ (16384 : Int) < ((n : Int) + (s.size : Int)) := by omega
  clear H hc
  go_enter Tryz.func8, Tryz.ntmps8
  go_upto_region 8 with (at_builtin; refine wpl_wapp (s := s) R (by have := win_len R; have := hlen.out; omega) rfl _ _ rfl rfl rfl ?_; intro o4 m4 k4 w4 r4 g4 l4; obtain ⟨f4, s4⟩ := F.out w4 g4; have P := KEY.out o4 m4 k4 w4 r4 g4 l4; clear r4 g4 l4)
  generalize w4.setCell ⟨p, 1, none⟩ (.slice o4 m4 k4) = w5 at P ⊢
  clear s4 f4
  go_wp2
  go_ret
  exact ⟨rfl, P⟩
theorem pass_any (h : Has w p Z c) (n : Nat) (hn : n ≤ c.l2.length) (h0 : 0 ≤ c.rd) (hm : c.rd + (c.l2.length : Int) ≤ 1048576) :
    Calls Tryz.prog 39 #[.pointer (some ⟨p, 0, none⟩), .int .i64 (n : Int)] w fun e w' => e = .returned (.tuple #[]) ∧ Post w w' p Z (passed c n) := by
  obtain ⟨u, fv, ch, Zc, H⟩ := h
  obtain ⟨u', sl, r', own, _, ku', eu'⟩ := H.row.from_ n hn
  obtain ⟨H1, G1⟩ := H.cut n r' own
  obtain ⟨H2, G2⟩ := H1.num 3 (.int .i64 (c.rd + (n : Int))) (c' := passed c n) rfl rfl rfl rfl
  have d1 := H.c1
  have f1 := H.fz 1
  have d3 := H1.c3
  have f3 := H1.fz 3
  obtain ⟨ou, ku, eu, _, _⟩ := H.row.form
  subst eu
  have hsum : IntKind.i64.wrap (c.rd + (n : Int)) = c.rd + (n : Int) := IntWalk.i64_in _ (by omega)
  have K : Hid (Post w ((w.setCell ⟨p, 1, none⟩ u').setCell ⟨p, 3, none⟩ (.int .i64 (c.rd + (n : Int)))) p Z (passed c n)) := Lib.hid ⟨_, ⟨_, _, _, _, H2⟩, G1.trans G2⟩
  clear H H1 H2 G1 G2 r' own h0 hm
  have d3' : (w.setCell ⟨p, 1, none⟩ u').cell? ⟨p, 3, none⟩ = some (.int .i64 c.rd) := d3
  generalize c.rd = r at *
  generalize c.l2.length = m at *
  subst eu'
  go_enter Tryz.func39, Tryz.ntmps39
  go_wp2
  go_end0
  exact ⟨rfl, K.out⟩
theorem slice_form {w : World} {v : Value} {l : List UInt8} (h : Win w v l) : ∃ o n k, v = .slice o n k := by
  obtain ⟨o, k, e, _⟩ := h.form
  exact ⟨o, _, k, e⟩
theorem refuse_any (h : Has w p Z c) (st : Int) {n : Nat} (hn : c.rd + (c.l2.length : Int) = (n : Int)) (h0 : 0 ≤ c.rd) (hm : n ≤ 1048576) :
    Calls Tryz.prog 36 #[.pointer (some ⟨p, 0, none⟩), .int .i64 st] w fun e w' => e = .returned (.bool false) ∧ Post w w' p Z (refused c st) := by
  have lf := left_any h hn h0 hm
  have key : ∀ w1, Below w.heap.size w w1 → Stores Tryz.prog w1 52 p 0 #[.int .i64 0, .slice none 0 0, .int .i64 0, .int .i64 (n : Int), .string ⟨#[]⟩, .string ⟨#[]⟩, .slice none 0 0, .bool false, .int .i64 0, .pointer none, .int .i64 st] (w1.setRow p (inV (refused c st) (.slice none 0 0) (.slice none 0 0) (.pointer none))) ∧ Post w (w1.setRow p (inV (refused c st) (.slice none 0 0) (.slice none 0 0) (.pointer none))) p Z (refused c st) := by
    intro w1 hb
    obtain ⟨u, fv, ch, Zc, H⟩ := h.old hb
    obtain ⟨a, b⟩ := H.reset (c' := refused c st) (u' := .slice none 0 0) (.inr rfl) (Win.nil _) rfl rfl
    have hs := H.all_stores (c' := refused c st) (u' := .slice none 0 0) (fv' := .slice none 0 0) (ch' := .pointer none) ⟨_, _, _, rfl⟩ ⟨_, _, _, rfl⟩ ⟨_, rfl⟩
    refine ⟨?_, _, ⟨_, _, _, _, a⟩, (Goes.of_below hb Z).trans b⟩
    have e : inV (refused c st) (.slice none 0 0) (.slice none 0 0) (.pointer none) = #[.int .i64 0, .slice none 0 0, .int .i64 0, .int .i64 (n : Int), .string ⟨#[]⟩, .string ⟨#[]⟩, .slice none 0 0, .bool false, .int .i64 0, .pointer none, .int .i64 st] := by
      rw [← hn]; rfl
    rw [← e]; exact hs
  have K := Lib.hid key
  clear key h hn h0
  generalize refused c st = c' at *
  go_enter Tryz.func36, Tryz.ntmps36
  go_wp2_with fail
  refine lf.mono ?_
  rintro e w1 ⟨rfl, B1⟩
  obtain ⟨S1, P1⟩ := K.out w1 B1
  clear lf
  generalize w1.setRow p _ = w2 at S1 P1
  go_wp2_with (refine wpl_store S1 rfl rfl rfl rfl rfl ?_)
  go_ret
  exact ⟨rfl, P1⟩
end
end Go.Proofs.YtdldoklkenhopaaGreatDoor.In
