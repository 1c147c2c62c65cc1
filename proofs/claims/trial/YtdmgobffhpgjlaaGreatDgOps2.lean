/-
  Contracts of Sync and Rewrite.
-/
import Derived.Test.YtdmgobffhpgjlaaGreatDgOps
namespace Go.Proofs.YtdmgobffhpgjlaaGreat.Sl.Dg
open Go.RowKit Go.PlainAid Go.Proofs.YtdmgobffhpgjlaaGreat.Cr
open Go.Proofs.YtdmgobffhpgjlaaGreat.Pk (Bs Fi Dk kl HasD has_append has_sync)
set_option linter.unusedVariables false
set_option maxRecDepth 20000
set_option linter.unusedSimpArgs false

section
variable {w0 w w' : World} {p q : Nat} {D D' : Dk} {L L' : Lg} {X : List (Nat × Obj)}
theorem syncL_sick (h : L.k = true) : syncL D L = (8, D, L) := by unfold syncL; rw [if_pos h]
theorem syncL_none (h : L.k = false) (hs : L.s = L.n) : syncL D L = (0, D, L) := by unfold syncL; rw [if_neg (by rw [h]; simp), if_pos hs]
theorem syncL_fail (h : L.k = false) (hs : L.s ≠ L.n) (c : (D.sync dN).1 ≠ 0) : syncL D L = ((D.sync dN).1, (D.sync dN).2, { L with k := true }) := by unfold syncL; rw [if_neg (by rw [h]; simp), if_neg hs, if_pos c]
theorem syncL_ok (h : L.k = false) (hs : L.s ≠ L.n) (c : (D.sync dN).1 = 0) : syncL D L = (0, (D.sync dN).2, { L with s := L.n }) := by unfold syncL; rw [if_neg (by rw [h]; simp), if_neg hs, if_neg (by simpa using c)]
set_option maxHeartbeats 2000000 in
theorem sync_sick (h : HasL w0 w p q D L X) (hk : L.k = true) :
    Calls Tryz.prog 23 #[.pointer (some ⟨q, 0, none⟩)] w fun e w' => e = .returned (.int .i64 8) ∧ HasL w0 w' p q D L X := by
  have c : w.cell? ⟨q, 4, none⟩ = some (.bool true) := by rw [← hk]; exact h.at.cell 4
  clear hk
  go_enter Tryz.func23, Tryz.ntmps23
  go_wp2
  go_ret
  exact ⟨rfl, h⟩
set_option maxHeartbeats 2000000 in
theorem sync_none (h : HasL w0 w p q D L X) (hk : L.k = false) (hs : L.s = L.n) :
    Calls Tryz.prog 23 #[.pointer (some ⟨q, 0, none⟩)] w fun e w' => e = .returned (.int .i64 0) ∧ HasL w0 w' p q D L X := by
  have c : w.cell? ⟨q, 4, none⟩ = some (.bool false) := by rw [← hk]; exact h.at.cell 4
  have c1 : w.cell? ⟨q, 1, none⟩ = some (.int .i64 L.n) := h.at.cell 1
  have c3 : w.cell? ⟨q, 3, none⟩ = some (.int .i64 L.n) := by rw [← hs]; exact h.at.cell 3
  clear hk hs
  go_enter Tryz.func23, Tryz.ntmps23
  go_upto_region 5 with (fail)
  go_quiet (fail)
  have h2 := h.drewN nq
  go_wp2
  go_ret
  exact ⟨rfl, h2⟩
set_option maxHeartbeats 2000000 in
theorem sync_fail (h : HasL w0 w p q D L X) (ho : D.ops ≤ 1099511627776) (hk : L.k = false) (hs : L.s ≠ L.n) {e1 : Int} {E : Dk} (hE : D.sync dN = (e1, E)) (c1 : e1 ≠ 0) :
    Calls Tryz.prog 23 #[.pointer (some ⟨q, 0, none⟩)] w fun e w' => e = .returned (.int .i64 e1) ∧ HasL w0 w' p q E { L with k := true } X := by
  have n1 : (e1 != 0) = true := by simpa using c1
  have C2 := Lib.hid fun z (h : HasL w0 z p q D L X) => has_sync h.d ho (s := dS) (by decide)
  rw [kl_dS, hE] at C2
  clear hE
  have c : w.cell? ⟨q, 4, none⟩ = some (.bool false) := by rw [← hk]; exact h.at.cell 4
  have d1 : w.cell? ⟨q, 1, none⟩ = some (.int .i64 L.n) := h.at.cell 1
  have d3 : w.cell? ⟨q, 3, none⟩ = some (.int .i64 L.s) := h.at.cell 3
  go_enter Tryz.func23, Tryz.ntmps23
  go_upto_region 5 with (fail)
  go_quiet (fail)
  replace h := h.drewN nq
  clear c d1 d3
  generalize w.drewN nq = w1 at h ⊢
  have c0 : w1.cell? ⟨q, 0, none⟩ = some (.pointer (some ⟨p, 0, none⟩)) := h.at.cell 0
  go_wp2_with fail
  refine (C2.out w1 h).mono ?_
  rintro e w3 ⟨rfl, h3⟩
  clear c0
  replace h : HasL w0 w3 p q E L X := ⟨h3, h.hq, h.hx⟩
  have c4 : w3.cell? ⟨q, 4, none⟩ = some (.bool false) := by rw [← hk]; exact h.at.cell 4
  have f4 := h.at.frozen 4
  have h5 := h.set (L' := { L with k := true }) 4 (.bool true) rfl
  clear C2 hk h h3
  go_wp2
  go_ret
  exact ⟨rfl, h5⟩
set_option maxHeartbeats 2000000 in
theorem sync_ok (h : HasL w0 w p q D L X) (ho : D.ops ≤ 1099511627776) (hk : L.k = false) (hs : L.s ≠ L.n) {E : Dk} (hE : D.sync dN = (0, E)) :
    Calls Tryz.prog 23 #[.pointer (some ⟨q, 0, none⟩)] w fun e w' => e = .returned (.int .i64 0) ∧ HasL w0 w' p q E { L with s := L.n } X := by
  have C2 := Lib.hid fun z (h : HasL w0 z p q D L X) => has_sync h.d ho (s := dS) (by decide)
  rw [kl_dS, hE] at C2
  clear hE
  have c : w.cell? ⟨q, 4, none⟩ = some (.bool false) := by rw [← hk]; exact h.at.cell 4
  have d1 : w.cell? ⟨q, 1, none⟩ = some (.int .i64 L.n) := h.at.cell 1
  have d3 : w.cell? ⟨q, 3, none⟩ = some (.int .i64 L.s) := h.at.cell 3
  go_enter Tryz.func23, Tryz.ntmps23
  go_upto_region 5 with (fail)
  go_quiet (fail)
  replace h := h.drewN nq
  clear c d1 d3
  generalize w.drewN nq = w1 at h ⊢
  have c0 : w1.cell? ⟨q, 0, none⟩ = some (.pointer (some ⟨p, 0, none⟩)) := h.at.cell 0
  go_wp2_with fail
  refine (C2.out w1 h).mono ?_
  rintro e w3 ⟨rfl, h3⟩
  clear c0
  replace h : HasL w0 w3 p q E L X := ⟨h3, h.hq, h.hx⟩
  have c1 : w3.cell? ⟨q, 1, none⟩ = some (.int .i64 L.n) := h.at.cell 1
  have c3 : w3.cell? ⟨q, 3, none⟩ = some (.int .i64 L.s) := h.at.cell 3
  have f3 := h.at.frozen 3
  have h5 := h.set (L' := { L with s := L.n }) 3 (.int .i64 L.n) rfl
  clear C2 hk h h3
  go_wp2
  go_ret
  exact ⟨rfl, h5⟩
theorem sync_raw (h : HasL w0 w p q D L X) (ho : D.ops ≤ 1099511627776) :
    Calls Tryz.prog 23 #[.pointer (some ⟨q, 0, none⟩)] w fun e w' => e = .returned (.int .i64 (syncL D L).1) ∧ HasL w0 w' p q (syncL D L).2.1 (syncL D L).2.2 X := by
  cases hk : L.k with
  | true => rw [syncL_sick hk]; exact sync_sick h hk
  | false =>
    by_cases hs : L.s = L.n
    · rw [syncL_none hk hs]; exact sync_none h hk hs
    · cases hE : D.sync dN with
      | mk e1 E =>
      by_cases c : e1 = 0
      · subst c
        rw [syncL_ok hk hs (by rw [hE]), hE]
        exact sync_ok h ho hk hs hE
      · rw [syncL_fail hk hs (by rw [hE]; exact c), hE]
        exact sync_fail h ho hk hs hE c
theorem sync_any (h : HasL w0 w p q D L X) (ho : D.ops ≤ 1099511627776) :
    Calls Tryz.prog 23 #[.pointer (some ⟨q, 0, none⟩)] w fun e w' => e = .returned (.int .i64 (syncL D L).1) ∧ HasL w0 w' p q (syncL D L).2.1 (syncL D L).2.2 X ∧ Kp w w' :=
  h.frame (R := fun e _ => e = .returned (.int .i64 (syncL D L).1)) fun X h => sync_raw h ho

/-! ### Rewrite -/
theorem rewL_no {xs : List Sp} (h : xs.all canB = false) : rewL D L xs = (1, D, L) := by unfold rewL; rw [if_pos h]
theorem rewL_fail {xs : List Sp} (h : xs.all canB = true) (c : (repl D (recsB xs)).1 ≠ 0) : rewL D L xs = ((repl D (recsB xs)).1, (repl D (recsB xs)).2, L) := by unfold rewL; rw [if_neg (by rw [h]; simp), if_pos c]
theorem rewL_ok {xs : List Sp} (h : xs.all canB = true) (c : (repl D (recsB xs)).1 = 0) : rewL D L xs = (0, (repl D (recsB xs)).2, ⟨(xs.length : Int), ((recsB xs).length : Int), (xs.length : Int), false⟩) := by unfold rewL; rw [if_neg (by rw [h]; simp), if_neg (by simpa using c)]
set_option maxHeartbeats 2000000 in
theorem rewrite_no (h : HasL w0 w p q D L X) {v : Value} {xs : List Sp} (hv : SlsAt w v xs) (hl : xs.length ≤ 1000000) (hc : xs.all canB = false) :
    Calls Tryz.prog 25 #[.pointer (some ⟨q, 0, none⟩), v] w fun e w' => e = .returned (.int .i64 1) ∧ HasL w0 w' p q D L X := by
  have C := records_any hv hl
  clear hv
  go_enter Tryz.func25, Tryz.ntmps25
  go_wp2_with fail
  refine C.mono ?_
  rintro e w1 ⟨⟨a, _⟩ | ⟨_, rfl⟩, G⟩
  · rw [hc] at a; cases a
  replace h := h.kept G
  go_wp2
  go_ret
  exact ⟨rfl, h⟩
set_option maxHeartbeats 2000000 in
theorem rewrite_fail (h : HasL w0 w p q D L X) (ho : D.ops + 5 ≤ 1099511627776) {v : Value} {xs : List Sp} (hv : SlsAt w v xs) (hl : xs.length ≤ 1000000) (hc : xs.all canB = true) {e1 : Int} {E : Dk} (hE : repl D (recsB xs) = (e1, E)) (c1 : e1 ≠ 0) :
    Calls Tryz.prog 25 #[.pointer (some ⟨q, 0, none⟩), v] w fun e w' => e = .returned (.int .i64 e1) ∧ HasL w0 w' p q E L X := by
  have C := records_any hv hl
  have n1 : (e1 != 0) = true := by simpa using c1
  have hr := recs_len_le (allCan.1 hc)
  have C2 := Lib.hid fun z (h : HasL w0 z p q D L X) => repl_any h.d ho (s := Cr.strOf (recs xs)) (by rw [strOf_size]; omega)
  rw [kl_strOf, show u8 (recs xs) = recsB xs from rfl, hE] at C2
  clear hv hE hr
  unfold RecsPost at C
  generalize Cr.strOf (recs xs) = s at C C2
  go_enter Tryz.func25, Tryz.ntmps25
  go_wp2_with fail
  refine C.mono ?_
  rintro e w1 ⟨⟨_, rfl⟩ | ⟨a, _⟩, G⟩
  rotate_left
  · rw [hc] at a; cases a
  replace h := h.kept G
  clear C G
  have c0 : w1.cell? ⟨q, 0, none⟩ = some (.pointer (some ⟨p, 0, none⟩)) := h.at.cell 0
  go_wp2_with fail
  refine (C2.out w1 h).mono ?_
  rintro e w3 ⟨rfl, h3⟩
  clear c0
  replace h : HasL w0 w3 p q E L X := ⟨h3, h.hq, h.hx⟩
  go_wp2
  go_ret
  exact ⟨rfl, h⟩
set_option maxHeartbeats 2000000 in
theorem rewrite_ok (h : HasL w0 w p q D L X) (ho : D.ops + 5 ≤ 1099511627776) {v : Value} {xs : List Sp} (hv : SlsAt w v xs) (hl : xs.length ≤ 1000000) (hc : xs.all canB = true) {E : Dk} (hE : repl D (recsB xs) = (0, E)) :
    Calls Tryz.prog 25 #[.pointer (some ⟨q, 0, none⟩), v] w fun e w' => e = .returned (.int .i64 0) ∧ HasL w0 w' p q E ⟨(xs.length : Int), ((recsB xs).length : Int), (xs.length : Int), false⟩ X := by
  have C := records_any hv hl
  obtain ⟨b1, cap1, rfl, hcap, _⟩ := hv.is
  have hr := recs_len_le (allCan.1 hc)
  have hz : (Cr.strOf (recs xs)).size ≤ 414000000 := by rw [strOf_size]; omega
  have C2 := Lib.hid fun z (h : HasL w0 z p q D L X) => repl_any h.d ho (s := Cr.strOf (recs xs)) (by omega)
  rw [kl_strOf, show u8 (recs xs) = recsB xs from rfl, hE] at C2
  have hlen : (recsB xs).length = (Cr.strOf (recs xs)).size := by rw [strOf_size]; exact u8_len _
  rw [hlen]
  clear hv hE hr hlen
  unfold RecsPost at C
  generalize Cr.strOf (recs xs) = s at C C2 hz ⊢
  go_enter Tryz.func25, Tryz.ntmps25
  go_wp2_with fail
  refine C.mono ?_
  rintro e w1 ⟨⟨_, rfl⟩ | ⟨a, _⟩, G⟩
  rotate_left
  · rw [hc] at a; cases a
  replace h := h.kept G
  clear C G
  have c0 : w1.cell? ⟨q, 0, none⟩ = some (.pointer (some ⟨p, 0, none⟩)) := h.at.cell 0
  go_wp2_with fail
  refine (C2.out w1 h).mono ?_
  rintro e w3 ⟨rfl, h3⟩
  clear c0
  replace h : HasL w0 w3 p q E L X := ⟨h3, h.hq, h.hx⟩
  clear C2 h3
  go_wp2_with fail
  refine (renew_any h (xs.length : Int) (s.size : Int)).mono ?_
  rintro e w4 ⟨rfl, h4⟩
  go_wp2
  go_ret
  exact ⟨rfl, h4⟩
theorem rewrite_raw (h : HasL w0 w p q D L X) (ho : D.ops + 5 ≤ 1099511627776) {v : Value} {xs : List Sp} (hv : SlsAt w v xs) (hl : xs.length ≤ 1000000) :
    Calls Tryz.prog 25 #[.pointer (some ⟨q, 0, none⟩), v] w fun e w' => e = .returned (.int .i64 (rewL D L xs).1) ∧ HasL w0 w' p q (rewL D L xs).2.1 (rewL D L xs).2.2 X := by
  cases hc : xs.all canB with
  | false => rw [rewL_no hc]; exact rewrite_no h hv hl hc
  | true =>
    cases hE : repl D (recsB xs) with
    | mk e1 E =>
    by_cases c : e1 = 0
    · subst c
      rw [rewL_ok hc (by rw [hE]), hE]
      exact rewrite_ok h ho hv hl hc hE
    · rw [rewL_fail hc (by rw [hE]; exact c), hE]
      exact rewrite_fail h ho hv hl hc hE c
theorem rewrite_any (h : HasL w0 w p q D L X) (ho : D.ops + 5 ≤ 1099511627776) {v : Value} {xs : List Sp} (hv : SlsAt w v xs) (hl : xs.length ≤ 1000000) :
    Calls Tryz.prog 25 #[.pointer (some ⟨q, 0, none⟩), v] w fun e w' => e = .returned (.int .i64 (rewL D L xs).1) ∧ HasL w0 w' p q (rewL D L xs).2.1 (rewL D L xs).2.2 X ∧ Kp w w' :=
  h.frame (R := fun e _ => e = .returned (.int .i64 (rewL D L xs).1)) fun X h => rewrite_raw h ho hv hl
end
end Go.Proofs.YtdmgobffhpgjlaaGreat.Sl.Dg
