/-
  Contracts of the steps of Next: whether a head may end, what is read of a body, a request that is handed out.
-/
import Derived.Test.YtdldoklkenhopaaGreatDoorInLeaf
import Derived.Test.YtdldoklkenhopaaGreatDoorChRefB
namespace Go.Proofs.YtdldoklkenhopaaGreatDoor.In
open Go.RowKit Go.PlainAid
open Hx Fi Ch
set_option linter.unusedVariables false
set_option maxRecDepth 20000
set_option linter.unusedSimpArgs false

section
variable {w : World} {p : Nat} {Z : Nat → Prop} {c : I}
/-- all that came is asked now -/
def askedAll (c : I) : I := { c with asked := (c.l2.length : Int) }
theorem may_any (h : Has w p Z c) {a : Nat} (ha : c.asked = (a : Int)) (hl : a ≤ c.l2.length) (hm : c.l2.length ≤ 1048576) :
    Calls Tryz.prog 34 #[.pointer (some ⟨p, 0, none⟩)] w fun e w' => e = .returned (.bool (decide ((10 : UInt8) ∈ c.l2.drop a ∨ 4096 ≤ c.l2.length))) ∧ Post w w' p Z (askedAll c) := by
  obtain ⟨u, fv, ch, Zc, H⟩ := h
  obtain ⟨u', sl, r', own, ou', ku', eu'⟩ := H.row.from_ a hl
  have d1 := H.c1
  have d2 := H.c2
  rw [ha] at d2
  obtain ⟨ou, ku, eu, _, _⟩ := H.row.form
  subst eu
  subst eu'
  have key : ∀ w1 : World, Below w.heap.size w w1 → w1.cell? ⟨p, 1, none⟩ = some (.slice ou c.l2.length ku) ∧ w1.cell? ⟨p, 2, none⟩ = some (.int .i64 (a : Int)) ∧ w1.frozen? ⟨p, 2, none⟩ = false ∧
      (∀ w2, w2 = w1.setCell ⟨p, 2, none⟩ (.int .i64 (c.l2.length : Int)) → w2.cell? ⟨p, 1, none⟩ = some (.slice ou c.l2.length ku) ∧ (Calls Tryz.prog 53 #[.slice ou' (c.l2.length - a) ku', .int .u8 10] w2 fun e w' => e = .returned (.int .i64 (Lib.indexByte (c.l2.drop a) 10)) ∧ w2 = w') ∧ Post w w2 p Z (askedAll c)) := by
    intro w1 hb
    have H1 := H.old hb
    obtain ⟨H2, G2⟩ := H1.num 2 (.int .i64 (c.l2.length : Int)) (c' := askedAll c) rfl rfl rfl rfl
    refine ⟨H1.c1, by have := H1.c2; rw [ha] at this; exact this, H1.fz 2, ?_⟩
    rintro w2 rfl
    have r2 : Win (w1.setCell ⟨p, 2, none⟩ (.int .i64 (c.l2.length : Int))) (.slice ou' (c.l2.length - a) ku') (c.l2.drop a) := r'.same fun b e => by
      have e2 : (Value.slice ou c.l2.length ku).ownBlock = some b := by rw [← own]; exact e
      rw [Below.heap_setCell _ _ _ _ (u_ne H e2)]
      exact hb.block b (H.row.lt e2)
    exact ⟨H2.c1, index_win r2 10, _, ⟨_, _, _, _, H2⟩, (Goes.of_below hb Z).trans G2⟩
  have K := Lib.hid key
  have hi := idx_ge (c.l2.drop a) 10
  clear key r' own H ha
  generalize askedAll c = c' at *
  generalize Lib.indexByte (c.l2.drop a) 10 = k at *
  by_cases h1 : 0 ≤ k
  · rw [decide_eq_true (Or.inl (hi.1 h1))]
    clear hi
    generalize c.l2.length = n at *
    go_enter Tryz.func34, Tryz.ntmps34
    go_upto_region 1 with (fail)
    go_quiet (fail)
    have BQ : Below w.heap.size w (w.drewN nq) := ⟨rfl, rfl, rfl, Nat.le_refl _, fun _ _ => rfl⟩
    generalize w.drewN nq = w1 at *
    obtain ⟨e1, e2, e3, e4⟩ := K.out w1 BQ
    clear d1 d2 sl BQ
    have E4 := Lib.hid e4
    clear e4
    go_upto_region 3 with (fail)
    obtain ⟨x1, x2, x3⟩ := E4.out _ rfl
    generalize w1.setCell _ _ = w2 at x1 x2 x3 ⊢
    clear e1 e2 e3
    go_wp2_with fail
    refine x2.mono ?_
    rintro e w' ⟨rfl, rfl⟩
    go_wp2
    go_ret
    exact ⟨rfl, x3⟩
  · have hno : ¬ (10 : UInt8) ∈ c.l2.drop a := fun hm => h1 (hi.2 hm)
    have hd : decide ((10 : UInt8) ∈ c.l2.drop a ∨ 4096 ≤ c.l2.length) = decide (4096 ≤ c.l2.length) := decide_eq_decide.2 ⟨fun x => x.resolve_left hno, .inr⟩
    rw [hd]
    clear hi hno hd
    generalize c.l2.length = n at *
    by_cases h2 : 4096 ≤ n
    · rw [decide_eq_true h2]
      have h3 : (4096 : Int) ≤ (n : Int) := by omega
      go_enter Tryz.func34, Tryz.ntmps34
      go_upto_region 1 with (fail)
      go_quiet (fail)
      have BQ : Below w.heap.size w (w.drewN nq) := ⟨rfl, rfl, rfl, Nat.le_refl _, fun _ _ => rfl⟩
      generalize w.drewN nq = w1 at *
      obtain ⟨e1, e2, e3, e4⟩ := K.out w1 BQ
      clear d1 d2 sl BQ
      have E4 := Lib.hid e4
      clear e4
      go_upto_region 3 with (fail)
      obtain ⟨x1, x2, x3⟩ := E4.out _ rfl
      generalize w1.setCell _ _ = w2 at x1 x2 x3 ⊢
      clear e1 e2 e3
      go_wp2_with fail
      refine x2.mono ?_
      rintro e w' ⟨rfl, rfl⟩
      go_wp2
      go_ret
      exact ⟨rfl, x3⟩
    · rw [decide_eq_false h2]
      have h3 : ¬ (4096 : Int) ≤ (n : Int) := by omega
      go_enter Tryz.func34, Tryz.ntmps34
      go_upto_region 1 with (fail)
      go_quiet (fail)
      have BQ : Below w.heap.size w (w.drewN nq) := ⟨rfl, rfl, rfl, Nat.le_refl _, fun _ _ => rfl⟩
      generalize w.drewN nq = w1 at *
      obtain ⟨e1, e2, e3, e4⟩ := K.out w1 BQ
      clear d1 d2 sl BQ
      have E4 := Lib.hid e4
      clear e4
      go_upto_region 3 with (fail)
      obtain ⟨x1, x2, x3⟩ := E4.out _ rfl
      generalize w1.setCell _ _ = w2 at x1 x2 x3 ⊢
      clear e1 e2 e3
      go_wp2_with fail
      refine x2.mono ?_
      rintro e w' ⟨rfl, rfl⟩
      go_wp2
      go_ret
      refine ⟨?_, x3⟩
      show Ending.returned (Value.bool (decide (0 ≤ k) || decide (4096 ≤ (n : Int)))) = _
      rw [decide_eq_false (show ¬ 0 ≤ k by omega), decide_eq_false (show ¬ (4096 : Int) ≤ (n : Int) by omega)]
      rfl
theorem set_due (h : Has w p Z c) (d : Int) : Post w (w.setCell ⟨p, 8, none⟩ (.int .i64 d)) p Z { c with due := d } := by
  obtain ⟨u, fv, ch, Zc, H⟩ := h
  obtain ⟨a, b⟩ := H.num 8 (.int .i64 d) (c' := { c with due := d }) rfl rfl rfl rfl
  exact ⟨_, ⟨_, _, _, _, a⟩, b⟩
theorem set_state (h : Has w p Z c) (d : Int) : Post w (w.setCell ⟨p, 0, none⟩ (.int .i64 d)) p Z { c with st := d } := by
  obtain ⟨u, fv, ch, Zc, H⟩ := h
  obtain ⟨a, b⟩ := H.num 0 (.int .i64 d) (c' := { c with st := d }) rfl rfl rfl rfl
  exact ⟨_, ⟨_, _, _, _, a⟩, b⟩
theorem Has.c0 (h : Has w p Z c) : w.cell? ⟨p, 0, none⟩ = some (.int .i64 c.st) ∧ w.frozen? ⟨p, 0, none⟩ = false := by
  obtain ⟨u, fv, ch, Zc, H⟩ := h
  exact ⟨H.c0, H.fz 0⟩
theorem Has.c8 (h : Has w p Z c) : w.cell? ⟨p, 8, none⟩ = some (.int .i64 c.due) ∧ w.frozen? ⟨p, 8, none⟩ = false := by
  obtain ⟨u, fv, ch, Zc, H⟩ := h
  exact ⟨H.c8, H.fz 8⟩
theorem Has.c1 (h : Has w p Z c) : ∃ o k, w.cell? ⟨p, 1, none⟩ = some (.slice o c.l2.length k) ∧ (convert 49 9 (.slice o c.l2.length k)).run Tryz.prog w = .ok (.string (tx c.l2)) w := by
  obtain ⟨u, fv, ch, Zc, H⟩ := h
  obtain ⟨o, k, e, _⟩ := H.row.form
  subst e
  exact ⟨o, k, H.c1, H.row.text⟩
theorem Has.c10 (h : Has w p Z c) : w.cell? ⟨p, 10, none⟩ = some (.int .i64 c.wr) := by
  obtain ⟨u, fv, ch, Zc, H⟩ := h
  exact H.c10
set_option maxHeartbeats 1000000 in
theorem body_whole (h : Has w p Z c) {d : Nat} (hd : c.due = (d : Int)) (hl : d ≤ c.l2.length) (h0 : 0 ≤ c.rd) (hm : c.rd + (c.l2.length : Int) ≤ 1048576) :
    Calls Tryz.prog 18 #[.pointer (some ⟨p, 0, none⟩)] w fun e w' => e = .returned (.bool true) ∧ Post w w' p Z { passed c d with due := 0, st := 3 } := by
  obtain ⟨d8, f8⟩ := h.c8
  obtain ⟨o, k, d1, _⟩ := h.c1
  have k1 : ∀ w1, Below w.heap.size w w1 → w1.cell? ⟨p, 8, none⟩ = some (.int .i64 (d : Int)) ∧ w1.frozen? ⟨p, 8, none⟩ = false ∧ Post w (w1.setCell ⟨p, 8, none⟩ (.int .i64 0)) p Z { c with due := 0 } := fun w1 hb => by
    have h1 := h.old hb
    exact ⟨by rw [← hd]; exact h1.c8.1, h1.c8.2, Post.trans (Goes.of_below hb Z) (set_due h1 0)⟩
  have k2 : ∀ w1 Z1, Has w1 p Z1 { c with due := 0 } → Calls Tryz.prog 39 #[.pointer (some ⟨p, 0, none⟩), .int .i64 (d : Int)] w1 fun e w' => e = .returned (.tuple #[]) ∧ Post w1 w' p Z1 { passed c d with due := 0 } := fun w1 Z1 h1 => pass_any h1 d hl h0 hm
  have K1 := Lib.hid k1
  have K2 := Lib.hid k2
  rw [hd] at d8
  clear k1 k2 hd
  have hm2 : ¬ (c.l2.length : Int) < (d : Int) := by omega
  have hm3 : (c.l2.length : Int) ≤ 1048576 := by omega
  have hd0 : min (d : Int) (c.l2.length : Int) = (d : Int) := by omega
  clear h
  generalize c.l2.length = m at *
  go_enter Tryz.func18, Tryz.ntmps18
  go_upto_region 1 with (fail)
  go_quiet (fail)
  have BQ : Below w.heap.size w (w.drewN nq) := ⟨rfl, rfl, rfl, Nat.le_refl _, fun _ _ => rfl⟩
  generalize w.drewN nq = w1 at *
  obtain ⟨e8, f8b, P8⟩ := K1.out w1 BQ
  replace P8 := Lib.hid P8
  clear d1 d8 f8 BQ K1
  go_upto_region 3 with (fail)
  replace P8 := P8.out
  generalize w1.setCell _ _ = w2 at P8 ⊢
  obtain ⟨Z1, h2, G2⟩ := P8
  have R2 := K2.out w2 Z1 h2
  clear e8 f8b K2 h2 hd0 hm2 hm3
  go_wp2_with fail
  refine R2.mono ?_
  rintro e w3 ⟨rfl, Z2, h3, G3⟩
  clear R2
  obtain ⟨x8, _⟩ := h3.c8
  obtain ⟨x0, y0⟩ := h3.c0
  replace x8 : w3.cell? ⟨p, 8, none⟩ = some (.int .i64 0) := x8
  replace x0 : w3.cell? ⟨p, 0, none⟩ = some (.int .i64 c.st) := x0
  have P3 := Lib.hid (set_state h3 3)
  clear h3
  go_upto_region 7 with (fail)
  replace P3 := P3.out
  generalize w3.setCell _ _ = w4 at P3 ⊢
  go_wp2
  go_ret
  exact ⟨rfl, Post.trans (G2.trans G3) P3⟩
set_option maxHeartbeats 1000000 in
theorem body_wait (h : Has w p Z c) {d : Nat} (hd : c.due = (d : Int)) (hl : c.l2.length < d) (hb : d ≤ 1048576) (h0 : 0 ≤ c.rd) (hm : c.rd + (c.l2.length : Int) ≤ 1048576) :
    Calls Tryz.prog 18 #[.pointer (some ⟨p, 0, none⟩)] w fun e w' => e = .returned (.bool false) ∧ Post w w' p Z { passed c c.l2.length with due := ((d : Int) - (c.l2.length : Int)) } := by
  obtain ⟨d8, f8⟩ := h.c8
  obtain ⟨o, k, d1, _⟩ := h.c1
  have k1 : ∀ w1, Below w.heap.size w w1 → w1.cell? ⟨p, 8, none⟩ = some (.int .i64 (d : Int)) ∧ w1.frozen? ⟨p, 8, none⟩ = false ∧ Post w (w1.setCell ⟨p, 8, none⟩ (.int .i64 ((d : Int) - (c.l2.length : Int)))) p Z { c with due := ((d : Int) - (c.l2.length : Int)) } := fun w1 hb => by
    have h1 := h.old hb
    exact ⟨by rw [← hd]; exact h1.c8.1, h1.c8.2, Post.trans (Goes.of_below hb Z) (set_due h1 _)⟩
  have k2 : ∀ w1 Z1, Has w1 p Z1 { c with due := ((d : Int) - (c.l2.length : Int)) } → Calls Tryz.prog 39 #[.pointer (some ⟨p, 0, none⟩), .int .i64 (c.l2.length : Int)] w1 fun e w' => e = .returned (.tuple #[]) ∧ Post w1 w' p Z1 { passed c c.l2.length with due := ((d : Int) - (c.l2.length : Int)) } := fun w1 Z1 h1 => pass_any h1 c.l2.length (Nat.le_refl _) h0 hm
  have K1 := Lib.hid k1
  have K2 := Lib.hid k2
  rw [hd] at d8
  clear k1 k2 hd
  have hm2 : (c.l2.length : Int) < (d : Int) := by omega
  have HM2 := Lib.hid hm2
  have hm3 : (d : Int) ≤ 1048576 := by omega
  have hd0 : min (d : Int) (c.l2.length : Int) = (c.l2.length : Int) := by omega
  clear h hl hm h0
  generalize c.l2.length = m at *
  go_enter Tryz.func18, Tryz.ntmps18
  go_upto_region 1 with (fail)
  go_quiet (fail)
  have BQ : Below w.heap.size w (w.drewN nq) := ⟨rfl, rfl, rfl, Nat.le_refl _, fun _ _ => rfl⟩
  generalize w.drewN nq = w1 at *
  obtain ⟨e8, f8b, P8⟩ := K1.out w1 BQ
  replace P8 := Lib.hid P8
  clear d1 d8 f8 BQ K1
  go_upto_region 3 with (fail)
  replace P8 := P8.out
  generalize w1.setCell _ _ = w2 at P8 ⊢
  obtain ⟨Z1, h2, G2⟩ := P8
  have R2 := K2.out w2 Z1 h2
  clear e8 f8b K2 h2 hd0 hm2 hm3
  go_wp2_with fail
  refine R2.mono ?_
  rintro e w3 ⟨rfl, Z2, h3, G3⟩
  clear R2
  obtain ⟨x8, _⟩ := h3.c8
  obtain ⟨x0, y0⟩ := h3.c0
  replace x8 : w3.cell? ⟨p, 8, none⟩ = some (.int .i64 ((d : Int) - (m : Int))) := x8
  have hd1 : (0 : Int) < ((d : Int) - (m : Int)) := by have := HM2.out; omega
  have P3 := Lib.hid (show Post w w3 p Z _ from ⟨Z2, h3, G2.trans G3⟩)
  clear h3 G2 G3 HM2
  generalize (d : Int) - (m : Int) = D at x8 hd1
  clear x0 y0
  go_wp2
  go_ret
  exact ⟨rfl, P3.out⟩
theorem has_ch (h : Has w p Z c) {R : CS} (hR : c.R = some R) : ∃ pc, w.cell? ⟨p, 9, none⟩ = some (.pointer (some ⟨pc, 0, none⟩)) ∧
    (∀ (s : ByteArray), R.Ok 4096 → s.size ≤ 549755813888 → R.u.length + s.size ≤ 1099511627776 → R.md.rest.length + s.size ≤ 1099511627776 → Calls Tryz.prog 40 #[.pointer (some ⟨pc, 0, none⟩), .string s] w fun e w' => e = .returned (.int .i64 (run 4096 R (ls s)).md.error) ∧ Post w w' p Z { c with R := some (run 4096 R (ls s)) }) ∧
    (Calls Tryz.prog 41 #[.pointer (some ⟨pc, 0, none⟩)] w fun e w' => e = .returned (.string (tx R.u)) ∧ Post w w' p Z { c with R := some (taken R) }) ∧
    (Calls Tryz.prog 42 #[.pointer (some ⟨pc, 0, none⟩)] w fun e w' => e = .returned (.string (tx R.md.rest)) ∧ w = w') ∧
    (Calls Tryz.prog 43 #[.pointer (some ⟨pc, 0, none⟩)] w fun e w' => e = .returned (.bool R.md.isDone) ∧ w = w') := by
  obtain ⟨u, fv, ch, Zc, H⟩ := h
  have hk := H.chk
  rw [hR] at hk
  obtain ⟨pc, rfl, ho⟩ := hk
  refine ⟨pc, H.c9, fun s ok hs hu hr => (add_of ho ok (by omega) s hs hu hr).mono ?_, (take_of ho).mono ?_, rest_of ho, done_of ho⟩
  · rintro e w' ⟨h1, Y, h2, g⟩
    obtain ⟨a, b⟩ := H.fed h2 rfl g
    exact ⟨h1, _, ⟨_, _, _, _, a⟩, b⟩
  · rintro e w' ⟨h1, Y, h2, g⟩
    obtain ⟨a, b⟩ := H.fed h2 rfl g
    exact ⟨h1, _, ⟨_, _, _, _, a⟩, b⟩
/-- the request of a struct, read -/
theorem has_rq (h : Has w p Z c) : ∃ fv, (∃ o n k, fv = .slice o n k) ∧ Loads Tryz.prog w 36 ⟨p, 4, none⟩ (rqV c.q fv) ∧ FdsAt w fv c.q.fs ∧ (∃ o n k, w.cell? ⟨p, 1, none⟩ = some (.slice o n k)) ∧ ∀ b, FB fv c.q.fs b → Z b := by
  obtain ⟨u, fv, ch, Zc, H⟩ := h
  obtain ⟨o, k, e, _⟩ := H.row.form
  obtain ⟨o2, k2, e2, _⟩ := H.fds.is
  exact ⟨fv, ⟨o2, _, k2, e2⟩, H.rq_loads, H.fds, ⟨o, _, k, by rw [← e]; exact H.c1⟩, H.zf⟩
end
end Go.Proofs.YtdldoklkenhopaaGreatDoor.In
