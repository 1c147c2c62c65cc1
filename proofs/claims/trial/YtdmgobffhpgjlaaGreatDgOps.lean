/-
  Contracts of Add, Sync, Rewrite, Len, Sure, Size, Sick; and of no log.
-/
import Derived.Test.YtdmgobffhpgjlaaGreatDgOpen
import Derived.Test.YtdmgobffhpgjlaaGreatDgRecs

namespace Go.Proofs.YtdmgobffhpgjlaaGreat.Sl.Dg
open Go.RowKit Go.PlainAid Go.Proofs.YtdmgobffhpgjlaaGreat.Cr
open Go.Proofs.YtdmgobffhpgjlaaGreat.Pk (Bs Fi Dk kl HasD has_append has_sync)
set_option linter.unusedVariables false
set_option maxRecDepth 20000
set_option linter.unusedSimpArgs false

section
variable {w0 w w' : World} {p q : Nat} {D D' : Dk} {L L' : Lg} {X : List (Nat × Obj)}
theorem len_has (h : HasL w0 w p q D L X) : Calls Tryz.prog 27 #[.pointer (some ⟨q, 0, none⟩)] w fun e w' => e = .returned (.int .i64 L.n) ∧ w = w' := by
  have c : w.cell? ⟨q, 1, none⟩ = some (.int .i64 L.n) := h.at.cell 1
  clear h
  go_enter Tryz.func27, Tryz.ntmps27
  go_wp2
  go_ret
  exact ⟨rfl, rfl⟩
theorem bytes_has (h : HasL w0 w p q D L X) : Calls Tryz.prog 29 #[.pointer (some ⟨q, 0, none⟩)] w fun e w' => e = .returned (.int .i64 L.b) ∧ w = w' := by
  have c : w.cell? ⟨q, 2, none⟩ = some (.int .i64 L.b) := h.at.cell 2
  clear h
  go_enter Tryz.func29, Tryz.ntmps29
  go_wp2
  go_ret
  exact ⟨rfl, rfl⟩
theorem sure_has (h : HasL w0 w p q D L X) : Calls Tryz.prog 28 #[.pointer (some ⟨q, 0, none⟩)] w fun e w' => e = .returned (.int .i64 L.s) ∧ w = w' := by
  have c : w.cell? ⟨q, 3, none⟩ = some (.int .i64 L.s) := h.at.cell 3
  clear h
  go_enter Tryz.func28, Tryz.ntmps28
  go_wp2
  go_ret
  exact ⟨rfl, rfl⟩
theorem sick_has (h : HasL w0 w p q D L X) : Calls Tryz.prog 30 #[.pointer (some ⟨q, 0, none⟩)] w fun e w' => e = .returned (.bool L.k) ∧ w = w' := by
  have c : w.cell? ⟨q, 4, none⟩ = some (.bool L.k) := h.at.cell 4
  clear h
  go_enter Tryz.func30, Tryz.ntmps30
  go_wp2
  go_ret
  exact ⟨rfl, rfl⟩
/-! ### Add -/
theorem addL_sick (x : Sp) (h : L.k = true) : addL D L x = (8, D, L) := by unfold addL; rw [if_pos h]
theorem addL_no {x : Sp} (h : L.k = false) (hx : ¬ Can x) : addL D L x = (1, D, L) := by unfold addL; rw [if_neg (by rw [h]; simp), if_pos (canB_no hx)]
theorem addL_fail {x : Sp} (h : L.k = false) (hx : Can x) (c : (D.append dN (recB x)).1 ≠ 0) : addL D L x = ((D.append dN (recB x)).1, (D.append dN (recB x)).2, { L with k := true }) := by unfold addL; rw [if_neg (by rw [h]; simp), if_neg (by rw [canB_yes hx]; simp), if_pos c]
theorem addL_ok {x : Sp} (h : L.k = false) (hx : Can x) (c : (D.append dN (recB x)).1 = 0) : addL D L x = (0, (D.append dN (recB x)).2, { L with n := L.n + 1, b := L.b + ((recB x).length : Int) }) := by unfold addL; rw [if_neg (by rw [h]; simp), if_neg (by rw [canB_yes hx]; simp), if_neg (by simpa using c)]
set_option maxHeartbeats 2000000 in
theorem add_sick (h : HasL w0 w p q D L X) (x : Sp) (hk : L.k = true) :
    Calls Tryz.prog 21 #[.pointer (some ⟨q, 0, none⟩), .agg (slV x)] w fun e w' => e = .returned (.int .i64 8) ∧ HasL w0 w' p q D L X := by
  replace h := h.alloc (.cells (slV x) 39)
  go_enter Tryz.func21, Tryz.ntmps21
  go_upto_region 1 with (fail)
  generalize w.alloc (.cells (slV x) 39) = w1 at h ⊢
  have c : w1.cell? ⟨q, 4, none⟩ = some (.bool true) := by rw [← hk]; exact h.at.cell 4
  clear hk
  go_wp2
  go_ret
  exact ⟨rfl, h⟩
set_option maxHeartbeats 2000000 in
theorem add_no (h : HasL w0 w p q D L X) (x : Sp) (ok : Okay x) (hx : ¬ Can x) (hk : L.k = false) :
    Calls Tryz.prog 21 #[.pointer (some ⟨q, 0, none⟩), .agg (slV x)] w fun e w' => e = .returned (.int .i64 1) ∧ HasL w0 w' p q D L X := by
  have J := At.new w 39 (slV x)
  replace h := h.alloc (.cells (slV x) 39)
  go_enter Tryz.func21, Tryz.ntmps21
  go_upto_region 1 with (fail)
  generalize w.alloc (.cells (slV x) 39) = w1 at h J ⊢
  generalize w.heap.size = B at J ⊢
  have LX := sl_loads J ok.dig.len
  have c : w1.cell? ⟨q, 4, none⟩ = some (.bool false) := by rw [← hk]; exact h.at.cell 4
  clear hk
  go_wp2_with (refine wpl_load LX rfl rfl rfl ?_)
  refine (write_no x _ ok hx).mono ?_
  rintro e w2 ⟨rfl, G⟩
  replace h := h.kept G
  go_wp2
  go_ret
  exact ⟨rfl, h⟩
set_option maxHeartbeats 2000000 in
theorem add_fail (h : HasL w0 w p q D L X) (ho : D.ops ≤ 1099511627776) (x : Sp) (ok : Okay x) (hx : Can x) (hk : L.k = false) {e1 : Int} {E : Dk} (hE : D.append dN (recB x) = (e1, E)) (c1 : e1 ≠ 0) :
    Calls Tryz.prog 21 #[.pointer (some ⟨q, 0, none⟩), .agg (slV x)] w fun e w' => e = .returned (.int .i64 e1) ∧ HasL w0 w' p q E { L with k := true } X := by
  have J := At.new w 39 (slV x)
  replace h := h.alloc (.cells (slV x) 39)
  have n1 : (e1 != 0) = true := by simpa using c1
  have C2 := Lib.hid fun z (h : HasL w0 z p q D L X) => has_append h.d ho (s := dS) (t := Cr.strOf (recL (bodyL x))) (by decide) (by have h1 := (body_len hx).2; have h2 := strOf_size (recL (bodyL x)); rw [rec_len] at h2; omega)
  rw [kl_dS, kl_strOf, show u8 (recL (bodyL x)) = recB x from rfl, hE] at C2
  have C1 := Lib.hid fun z => write_yes x z ok hx
  clear hE
  generalize Cr.strOf (recL (bodyL x)) = s at C1 C2
  go_enter Tryz.func21, Tryz.ntmps21
  go_upto_region 1 with (fail)
  generalize w.alloc (.cells (slV x) 39) = w1 at h J ⊢
  generalize w.heap.size = B at J ⊢
  have LX := sl_loads J ok.dig.len
  have c : w1.cell? ⟨q, 4, none⟩ = some (.bool false) := by rw [← hk]; exact h.at.cell 4
  go_wp2_with (refine wpl_load LX rfl rfl rfl ?_)
  refine (C1.out _).mono ?_
  rintro e w2 ⟨rfl, G⟩
  replace h := h.kept G
  clear G C1 LX J c
  have c0 : w2.cell? ⟨q, 0, none⟩ = some (.pointer (some ⟨p, 0, none⟩)) := h.at.cell 0
  go_wp2_with fail
  refine (C2.out w2 h).mono ?_
  rintro e w3 ⟨rfl, h3⟩
  clear c0
  replace h : HasL w0 w3 p q E L X := ⟨h3, h.hq, h.hx⟩
  have c4 : w3.cell? ⟨q, 4, none⟩ = some (.bool false) := by rw [← hk]; exact h.at.cell 4
  have f4 := h.at.frozen 4
  have h5 := h.set (L' := { L with k := true }) 4 (.bool true) rfl
  clear C2 hk h h3
  go_wp2
  go_ret
  exact ⟨rfl, h5⟩
set_option maxHeartbeats 2000000 in
theorem add_ok (h : HasL w0 w p q D L X) (ho : D.ops ≤ 1099511627776) (fit : L.Fits) (x : Sp) (ok : Okay x) (hx : Can x) (hk : L.k = false) {E : Dk} (hE : D.append dN (recB x) = (0, E)) :
    Calls Tryz.prog 21 #[.pointer (some ⟨q, 0, none⟩), .agg (slV x)] w fun e w' => e = .returned (.int .i64 0) ∧ HasL w0 w' p q E { L with n := L.n + 1, b := L.b + ((recB x).length : Int) } X := by
  have J := At.new w 39 (slV x)
  replace h := h.alloc (.cells (slV x) 39)
  have hz : (Cr.strOf (recL (bodyL x))).size ≤ 414 := by have h1 := (body_len hx).2; have h2 := strOf_size (recL (bodyL x)); rw [rec_len] at h2; omega
  have C2 := Lib.hid fun z (h : HasL w0 z p q D L X) => has_append h.d ho (s := dS) (t := Cr.strOf (recL (bodyL x))) (by decide) (by omega)
  rw [kl_dS, kl_strOf, show u8 (recL (bodyL x)) = recB x from rfl, hE] at C2
  have C1 := Lib.hid fun z => write_yes x z ok hx
  have hl : (recB x).length = (Cr.strOf (recL (bodyL x))).size := by rw [strOf_size]; exact u8_len _
  rw [hl]
  clear hE hl
  generalize Cr.strOf (recL (bodyL x)) = s at C1 C2 hz ⊢
  have g1 := fit.n
  have g2 := fit.b
  clear fit
  go_enter Tryz.func21, Tryz.ntmps21
  go_upto_region 1 with (fail)
  generalize w.alloc (.cells (slV x) 39) = w1 at h J ⊢
  generalize w.heap.size = B at J ⊢
  have LX := sl_loads J ok.dig.len
  have c : w1.cell? ⟨q, 4, none⟩ = some (.bool false) := by rw [← hk]; exact h.at.cell 4
  go_wp2_with (refine wpl_load LX rfl rfl rfl ?_)
  refine (C1.out _).mono ?_
  rintro e w2 ⟨rfl, G⟩
  replace h := h.kept G
  clear G C1 LX J c
  have c0 : w2.cell? ⟨q, 0, none⟩ = some (.pointer (some ⟨p, 0, none⟩)) := h.at.cell 0
  go_wp2_with fail
  refine (C2.out w2 h).mono ?_
  rintro e w3 ⟨rfl, h3⟩
  clear c0
  replace h : HasL w0 w3 p q E L X := ⟨h3, h.hq, h.hx⟩
  clear C2 hk h3
  have c1 : w3.cell? ⟨q, 1, none⟩ = some (.int .i64 L.n) := h.at.cell 1
  have f1 := h.at.frozen 1
  have h4 := h.set (L' := { L with n := L.n + 1 }) 1 (.int .i64 (L.n + 1)) rfl
  go_upto_region 13 with (fail)
  clear h c1 f1
  generalize w3.setCell ⟨q, 1, none⟩ (.int .i64 (L.n + 1)) = w4 at h4 ⊢
  have c2 : w4.cell? ⟨q, 2, none⟩ = some (.int .i64 L.b) := h4.at.cell 2
  have f2 := h4.at.frozen 2
  have h5 := h4.set (L' := { L with n := L.n + 1, b := L.b + (s.size : Int) }) 2 (.int .i64 (L.b + (s.size : Int))) rfl
  clear h4
  go_wp2
  go_ret
  exact ⟨rfl, h5⟩
theorem add_raw (h : HasL w0 w p q D L X) (ho : D.ops ≤ 1099511627776) (fit : L.Fits) (x : Sp) (ok : Okay x) :
    Calls Tryz.prog 21 #[.pointer (some ⟨q, 0, none⟩), .agg (slV x)] w fun e w' => e = .returned (.int .i64 (addL D L x).1) ∧ HasL w0 w' p q (addL D L x).2.1 (addL D L x).2.2 X := by
  cases hk : L.k with
  | true => rw [addL_sick x hk]; exact add_sick h x hk
  | false =>
    by_cases hx : Can x
    · cases hE : D.append dN (recB x) with
      | mk e1 E =>
      by_cases c : e1 = 0
      · subst c
        rw [addL_ok hk hx (by rw [hE]), hE]
        exact add_ok h ho fit x ok hx hk hE
      · rw [addL_fail hk hx (by rw [hE]; exact c), hE]
        exact add_fail h ho x ok hx hk hE c
    · rw [addL_no hk hx]; exact add_no h x ok hx hk
theorem add_any (h : HasL w0 w p q D L X) (ho : D.ops ≤ 1099511627776) (fit : L.Fits) (x : Sp) (ok : Okay x) :
    Calls Tryz.prog 21 #[.pointer (some ⟨q, 0, none⟩), .agg (slV x)] w fun e w' => e = .returned (.int .i64 (addL D L x).1) ∧ HasL w0 w' p q (addL D L x).2.1 (addL D L x).2.2 X ∧ Kp w w' :=
  h.frame (R := fun e _ => e = .returned (.int .i64 (addL D L x).1)) fun X h => add_raw h ho fit x ok
end
end Go.Proofs.YtdmgobffhpgjlaaGreat.Sl.Dg
