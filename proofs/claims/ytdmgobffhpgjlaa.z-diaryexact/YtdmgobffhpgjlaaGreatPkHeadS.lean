/-
  Contracts of Off, Arm, Ops, Down, fail, begin, find and reach.
  Contracts of find, reach, Arm, Ops, Down, Size, Safe.
-/
import Derived.Test.YtdmgobffhpgjlaaGreatPkAgg
import Derived.Maps.OwnSet
import Derived.Deep.RegionHeld3
import Derived.Deep.Cut
section
namespace Go.Proofs.YtdmgobffhpgjlaaGreat.Pk
open Go.RowKit Go.PlainAid Go.Maps
set_option linter.unusedVariables false
set_option maxRecDepth 20000
set_option linter.unusedSimpArgs false

section
variable {w : World} {p m : Nat} {G : Gs} {D : Dk}
theorem DiskAt.store (h : DiskAt w p m G D) (k a b : Int) {D' : Dk} (hL : D'.L = D.L) (ok : D'.Ok) (e : headV m D' = #[.int .i64 D.room, .map (some m), .int .i64 D.ops, .bool D.off, .int .i64 k, .int .i64 a, .int .i64 b]) :
    ∃ X, Stores Tryz.prog w 72 p 4 #[.int .i64 k, .int .i64 a, .int .i64 b] X ∧ DiskAt X p m G D' ∧ Goes w X (zone p m G D.L) (zone p m G D'.L) := by
  have s := stores_part (P := Tryz.prog) (ty := 72) (off := 4) (cs := #[.int .i64 k, .int .i64 a, .int .i64 b]) h.head (by kernel_rfl) (by simp [headV]) (by simp [Value.oneCell'])
  refine ⟨_, s, h.turn hL ok ?_ fun b hb => heap_setRow_other hb, ?_⟩
  · rw [setRow_heap w p _ _ _ _ h.head, e]
    rfl
  · rw [hL]
    exact ⟨rfl, rfl, rfl, by simp, fun b hb hn => heap_setRow_other fun e => hn (.inl e), fun _ h => .inl h⟩
theorem DiskAt.drewN (h : DiskAt w p m G D) (n : Nat) : DiskAt (w.drewN n) p m G D := h.kept fun _ _ => rfl
theorem Goes.drewN (w : World) (n : Nat) (Z : Nat → Prop) : Goes w (w.drewN n) Z Z := ⟨rfl, rfl, rfl, Nat.le_refl _, fun _ _ _ => rfl, fun _ h => .inl h⟩
set_option maxRecDepth 100000 in
set_option maxHeartbeats 1000000 in
theorem off_any (h : DiskAt w p m G D) :
    Calls Tryz.prog 13 #[.pointer (some ⟨p, 0, none⟩)] w fun e w' => e = .returned (.tuple #[]) ∧ DiskAt w' p m G D.offd ∧ Goes w w' (zone p m G D.L) (zone p m G D.L) := by
  have ok1 : { D with off := true }.Ok := ⟨h.ok.room0, h.ok.room1, h.ok.ops0, h.ok.kd, h.ok.fa0, h.ok.fa1, h.ok.fm0, h.ok.fm1, h.ok.up, h.ok.names, h.ok.safe, h.ok.used, h.ok.cnt⟩
  have c3 := h.cell 3
  have f3 := h.frozen 3
  obtain ⟨h1, g1⟩ := h.set (D' := { D with off := true }) rfl ok1 3 (.bool true) rfl
  obtain ⟨X, S, h2, g2⟩ := h1.store 0 0 0 (D' := D.offd) rfl h.ok.offd rfl
  have g3 := g1.trans g2
  simp [headV] at c3
  have H2 := Lib.hid h2
  have G3 := Lib.hid g3
  clear h h1 g1 h2 g2 g3 ok1
  go_enter Tryz.func13, Tryz.ntmps13
  go_wp2_with (first | refine wpl_store S rfl rfl rfl rfl rfl ?_)
  exact bodyPost_end (v := .tuple #[]) (by simp [results, Tryz.results13, go_sem]) rfl ⟨rfl, H2.out, G3.out⟩
set_option maxRecDepth 100000 in
set_option maxHeartbeats 1000000 in
theorem fail_any (h : DiskAt w p m G D) (ho : D.ops ≤ 2199023255552) :
    Calls Tryz.prog 93 #[.pointer (some ⟨p, 0, none⟩)] w fun e w' => e = .returned (.int .i64 D.fail.1) ∧ DiskAt w' p m G D.fail.2 ∧ Goes w w' (zone p m G D.L) (zone p m G D.L) := by
  have c2 := h.cell 2
  have c4 := h.cell 4
  have c5 := h.cell 5
  have c6 := h.cell 6
  simp [headV] at c2 c4 c5 c6
  obtain ⟨a0, a1, a2, a3, a4, a5⟩ : 0 ≤ D.ops ∧ (D.kd = 0 ∨ D.kd = 1 ∨ D.kd = 2) ∧ 0 ≤ D.fa ∧ D.fa ≤ 2199023255552 ∧ 0 ≤ D.fm ∧ D.fm ≤ 9223372036854775807 := ⟨h.ok.ops0, h.ok.kd, h.ok.fa0, h.ok.fa1, h.ok.fm0, h.ok.fm1⟩
  have E0 : D.kd = 0 ∨ D.ops - D.fa < 0 ∨ D.fm < D.ops - D.fa → D.fail = (0, D) := fun c => by unfold Dk.fail; rw [if_pos c]
  have E1 : ¬ (D.kd = 0 ∨ D.ops - D.fa < 0 ∨ D.fm < D.ops - D.fa) → D.kd = 1 → D.fail = (11, D) := fun c d => by unfold Dk.fail; rw [if_neg c, if_pos d]
  have E2 : ¬ (D.kd = 0 ∨ D.ops - D.fa < 0 ∨ D.fm < D.ops - D.fa) → D.kd ≠ 1 → D.fail = (12, D.offd) := fun c d => by unfold Dk.fail; rw [if_neg c, if_neg d]
  have F0 := Lib.hid E0
  have F1 := Lib.hid E1
  have F2 := Lib.hid E2
  clear E0 E1 E2
  have HO := Lib.hid fun w' (h' : DiskAt w' p m G D) => off_any h'
  have HD := Lib.hid fun n => h.drewN n
  have C : ∀ w', DiskAt w' p m G D → w'.cell? ⟨p, 4, none⟩ = some (.int .i64 D.kd) ∧ w'.cell? ⟨p, 6, none⟩ = some (.int .i64 D.fm) := by
    intro w' h'
    have c4 := h'.cell 4
    have c6 := h'.cell 6
    simp [headV] at c4 c6
    exact ⟨c4, c6⟩
  have C' := Lib.hid C
  clear h C
  generalize D.ops = ops at *
  generalize D.kd = kd at *
  generalize D.fa = fa at *
  generalize D.fm = fm at *
  go_enter Tryz.func93, Tryz.ntmps93
  go_upto_region 1 with (fail)
  go_quiet (fail)
  have h1 := HD.out nq
  have g1 := Lib.hid (Goes.drewN w nq (zone p m G D.L))
  generalize w.drewN nq = w1 at *
  clear HD c2 c4 c5 c6
  obtain ⟨c4, c6⟩ := C'.out w1 h1
  have h2 := Lib.hid h1
  clear h1 C'
  by_cases k0 : kd = 0
  · subst k0
    go_wp2
    go_ret
    rw [F0.out (.inl trivial)]
    exact ⟨rfl, h2.out, g1.out⟩
  by_cases b1 : ops - fa < 0
  · go_wp2
    go_ret
    rw [F0.out (by omega)]
    exact ⟨rfl, h2.out, g1.out⟩
  by_cases b2 : fm < ops - fa
  · go_wp2
    go_ret
    rw [F0.out (by omega)]
    exact ⟨rfl, h2.out, g1.out⟩
  by_cases k1 : kd = 1
  · subst k1
    go_wp2
    go_ret
    rw [F1.out (by omega) trivial]
    exact ⟨rfl, h2.out, g1.out⟩
  · go_wp2_with fail
    refine (HO.out w1 h2.out).mono ?_
    rintro e w' ⟨rfl, h3, g3⟩
    have H3 := Lib.hid h3
    have G3 := Lib.hid (g1.out.trans g3)
    clear h3 g3
    go_wp2
    go_ret
    rw [F2.out (by omega) (by omega)]
    exact ⟨rfl, H3.out, G3.out⟩
set_option maxRecDepth 100000 in
set_option maxHeartbeats 1000000 in
theorem begin_any (h : DiskAt w p m G D) (ho : D.ops ≤ 1099511627776) (good : Bool) :
    Calls Tryz.prog 71 #[.pointer (some ⟨p, 0, none⟩), .bool good] w fun e w' => e = .returned (.int .i64 (D.beg good).1) ∧ DiskAt w' p m G (D.beg good).2 ∧ Goes w w' (zone p m G D.L) (zone p m G D.L) := by
  have c2 := h.cell 2
  have c3 := h.cell 3
  have f2 := h.frozen 2
  simp [headV] at c2 c3
  have a0 := h.ok.ops0
  have w1 : IntKind.i64.wrap (D.ops + 1) = D.ops + 1 := IntWalk.i64_in _ (by omega)
  obtain ⟨h1, g1⟩ := h.set (D' := { D with ops := D.ops + 1 }) rfl h.ok.count 2 (.int .i64 (D.ops + 1)) rfl
  have FA := fail_any h1 (by simp; omega)
  have G1 := Lib.hid g1
  have H := Lib.hid h
  clear h h1 g1
  unfold Dk.beg
  cases good with
  | false =>
    go_enter Tryz.func71, Tryz.ntmps71
    go_wp2
    go_ret
    exact ⟨rfl, H.out, Goes.refl _ _⟩
  | true =>
    simp only [Bool.true_eq_false, if_false]
    by_cases hoff : D.off = true
    · rw [if_pos hoff]
      rw [hoff] at c3
      go_enter Tryz.func71, Tryz.ntmps71
      go_wp2
      go_ret
      exact ⟨rfl, H.out, Goes.refl _ _⟩
    · rw [if_neg hoff]
      rw [show D.off = false by simpa using hoff] at c3
      generalize ({ D with ops := D.ops + 1 } : Dk).fail = r at *
      go_enter Tryz.func71, Tryz.ntmps71
      go_wp2_with fail
      refine FA.mono ?_
      rintro e w' ⟨rfl, h3, g3⟩
      have H3 := Lib.hid h3
      have G3 := Lib.hid (G1.out.trans g3)
      clear h3 g3
      go_wp2
      go_ret
      exact ⟨rfl, H3.out, G3.out⟩
end
end Go.Proofs.YtdmgobffhpgjlaaGreat.Pk
end

section
namespace Go.Proofs.YtdmgobffhpgjlaaGreat.Pk
open Go.RowKit Go.PlainAid Go.Maps
set_option linter.unusedVariables false
set_option maxRecDepth 20000
set_option linter.unusedSimpArgs false

def fp (G : Gs) (o : Option Fi) : Value := .pointer (o.map fun f => ⟨(G f.nm).1, 0, none⟩)
theorem zfile : ∀ w, (zeroValue 86).run Tryz.prog w = .ok (.pointer none) w := fun w => by kernel_rfl
section
variable {w : World} {p m : Nat} {G : Gs} {D : Dk}
theorem DiskAt.alloc (h : DiskAt w p m G D) (o : Obj) : DiskAt (w.alloc o) p m G D := h.kept fun b hb => Below.heap_alloc _ _ _ (h.lt hb)
theorem Goes.alloc (w : World) (o : Obj) (Z : Nat → Prop) : Goes w (w.alloc o) Z Z := ⟨rfl, rfl, rfl, by simp, fun b hb _ => Below.heap_alloc _ _ _ hb, fun _ h => .inl h⟩
theorem DiskAt.look (h : DiskAt w p m G D) {s : ByteArray} (hs : s.size ≤ 9223372036854775807) : (Instr.lookup 70 (.map (some m)) (.string s) false).run Tryz.prog w = .ok (fp G (getF (kl s) D.L)) w := by
  obtain ⟨v, ps, hr, hv⟩ := h.map.lookup kname Tryz.underlying70 (zfile w) (show RF (.pointer none) = some (.nil, []) from rfl) (keyN hs)
  rw [hr]
  rw [datum_at] at hv
  cases hg : getF (kl s) D.L with
  | none =>
    rw [hg] at hv
    rw [RF_nil hv]
    rfl
  | some f =>
    rw [hg] at hv
    rw [RF_inv hv]
    rfl
theorem DiskAt.hand (h : DiskAt w p m G D) : w.cell? ⟨p, 1, none⟩ = some (.map (some m)) := by
  have := h.cell 1
  simpa [headV] using this
set_option maxRecDepth 100000 in
set_option maxHeartbeats 1000000 in
theorem find_any (h : DiskAt w p m G D) {s : ByteArray} (hs : s.size ≤ 9223372036854775807) :
    Calls Tryz.prog 45 #[.pointer (some ⟨p, 0, none⟩), .string s] w fun e w' => e = .returned (fp G (getF (kl s) D.L)) ∧ w = w' := by
  have L := h.look hs
  have c1 := h.hand
  clear h
  generalize fp G (getF (kl s) D.L) = v at *
  go_enter Tryz.func45, Tryz.ntmps45
  go_wp2
  go_ret
  exact ⟨rfl, rfl⟩
set_option maxRecDepth 100000 in
set_option maxHeartbeats 1000000 in
theorem reach_no (h : DiskAt w p m G D) (ho : D.ops ≤ 1099511627776) {s : ByteArray} (hs : s.size ≤ 9223372036854775807) (good : Bool) (hr : (D.beg good).1 ≠ 0) :
    Calls Tryz.prog 47 #[.pointer (some ⟨p, 0, none⟩), .string s, .bool good] w fun e w' => e = .returned (.tuple #[.pointer none, .int .i64 (D.beg good).1]) ∧ DiskAt w' p m G (D.beg good).2 ∧ Goes w w' (zone p m G D.L) (zone p m G D.L) := by
  have B := begin_any h ho good
  clear h
  generalize (D.beg good) = r at *
  obtain ⟨r1, r2⟩ := r
  simp only at hr B ⊢
  go_enter Tryz.func47, Tryz.ntmps47
  go_wp2_with fail
  refine B.mono ?_
  rintro e w' ⟨rfl, h3, g3⟩
  have H3 := Lib.hid h3
  have G3 := Lib.hid g3
  clear h3 g3 B
  go_wp2
  go_ret2
  exact ⟨rfl, H3.out, G3.out⟩
set_option maxRecDepth 100000 in
set_option maxHeartbeats 1000000 in
theorem reach_none (h : DiskAt w p m G D) (ho : D.ops ≤ 1099511627776) {s : ByteArray} (hs : s.size ≤ 9223372036854775807) (good : Bool) (hr : (D.beg good).1 = 0) (hg : getF (kl s) (D.beg good).2.L = none) :
    Calls Tryz.prog 47 #[.pointer (some ⟨p, 0, none⟩), .string s, .bool good] w fun e w' => e = .returned (.tuple #[.pointer none, .int .i64 7]) ∧ DiskAt w' p m G (D.beg good).2 ∧ Goes w w' (zone p m G D.L) (zone p m G D.L) := by
  have B := begin_any h ho good
  clear h
  rw [hr] at B
  generalize (D.beg good).2 = r at *
  have FD := Lib.hid fun w' (h' : DiskAt w' p m G r) => find_any h' hs
  rw [hg] at FD
  go_enter Tryz.func47, Tryz.ntmps47
  go_wp2_with fail
  refine B.mono ?_
  rintro e w' ⟨rfl, h3, g3⟩
  have FF := FD.out w' h3
  unfold fp at FF
  simp only [Option.map_none] at FF
  have H3 := Lib.hid h3
  have G3 := Lib.hid g3
  clear h3 g3 B FD
  go_wp2_with fail
  refine FF.mono ?_
  rintro e w' ⟨rfl, rfl⟩
  clear FF
  go_wp2
  go_ret2
  exact ⟨rfl, H3.out, G3.out⟩
set_option maxRecDepth 100000 in
set_option maxHeartbeats 1000000 in
theorem reach_some (h : DiskAt w p m G D) (ho : D.ops ≤ 1099511627776) {s : ByteArray} (hs : s.size ≤ 9223372036854775807) (good : Bool) (hr : (D.beg good).1 = 0) {f : Fi} (hg : getF (kl s) (D.beg good).2.L = some f) :
    Calls Tryz.prog 47 #[.pointer (some ⟨p, 0, none⟩), .string s, .bool good] w fun e w' => e = .returned (.tuple #[.pointer (some ⟨(G f.nm).1, 0, none⟩), .int .i64 0]) ∧ DiskAt w' p m G (D.beg good).2 ∧ Goes w w' (zone p m G D.L) (zone p m G D.L) := by
  have B := begin_any h ho good
  clear h
  rw [hr] at B
  generalize (D.beg good).2 = r at *
  have FD := Lib.hid fun w' (h' : DiskAt w' p m G r) => find_any h' hs
  rw [hg] at FD
  simp only [fp, Option.map_some] at FD
  generalize (G f.nm).1 = g at *
  go_enter Tryz.func47, Tryz.ntmps47
  go_wp2_with fail
  refine B.mono ?_
  rintro e w' ⟨rfl, h3, g3⟩
  have FF := FD.out w' h3
  have H3 := Lib.hid h3
  have G3 := Lib.hid g3
  clear h3 g3 B FD
  go_wp2_with fail
  refine FF.mono ?_
  rintro e w' ⟨rfl, rfl⟩
  clear FF
  go_wp2
  go_ret2
  exact ⟨rfl, H3.out, G3.out⟩
set_option maxRecDepth 100000 in
theorem ops_any (h : DiskAt w p m G D) : Calls Tryz.prog 32 #[.pointer (some ⟨p, 0, none⟩)] w fun e w' => e = .returned (.int .i64 D.ops) ∧ w = w' := by
  have c := h.cell 2
  simp [headV] at c
  clear h
  go_enter Tryz.func32, Tryz.ntmps32
  go_wp2
  go_ret
  exact ⟨rfl, rfl⟩
end
end Go.Proofs.YtdmgobffhpgjlaaGreat.Pk
end
