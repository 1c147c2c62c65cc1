/-
  The document's Rewrite of a log.
-/
import Derived.Test.YtdmgobffhpgjlaaGreatDxAdd
import Derived.Test.YtdmgobffhpgjlaaGreatDxMath
import Derived.Laws.AppendOwnNone

namespace Go.Proofs.YtdmgobffhpgjlaaGreat.Sl.Dg
open Go.RowKit Go.PlainAid Go.Proofs.YtdmgobffhpgjlaaGreat.Cr
open Go.Proofs.YtdmgobffhpgjlaaGreat.Pk (Bs Fi Dk kl usedF getF)
set_option linter.unusedVariables false
set_option maxRecDepth 20000
set_option linter.unusedSimpArgs false

section
variable {D D1 D2 D3 D4 D5 : Dk} {e1 e2 e3 e4 e5 : Int} {s : Bs}
theorem repl_eq (hD : disc D = (e1, D1)) (hC : D1.create nN = (e2, D2)) (hF : fill D2 s = (e3, D3)) (hS : D3.sync nN = (e4, D4)) (hN : D4.rename nN dN = (e5, D5)) :
    repl D s = if e1 ≠ 0 then (e1, D1) else if e2 ≠ 0 then (e2, D2) else if e3 ≠ 0 then (e3, D3) else if e4 ≠ 0 then (e4, D4) else (e5, D5) := by
  unfold repl
  simp only [hD, hC, hF, hS, hN]
end
/-- the cells of a row of slips, one by one -/
theorem sls_cells {w : World} {b : Option Addr} {n cap : Nat} {xs : List Sp} (h : SlsAt w (.slice b n cap) xs) {a : Addr} (hb : b = some a) : ∀ j u, (slsL xs)[j]? = some u → w.cell? (a.add j) = some u := by
  obtain ⟨base, c, e, _, hc⟩ := h.is
  injection e with e1 e2 e3
  subst e1
  have ok := h.ok
  clear e2 e3 h
  have gen : ∀ (ys : List Sp) (k : Nat), (∀ y ∈ ys, Okay y) → (∀ j x, ys[j]? = some x → ∃ a' : Addr, b = some a' ∧ a'.block < w.heap.size ∧ ∀ i c, (slV x)[i]? = some c → w.cell? ((a'.add ((k + j) * 38)).add i) = some c) → ∀ j u, (slsL ys)[j]? = some u → w.cell? (a.add (k * 38 + j)) = some u := by
    intro ys
    induction ys with
    | nil => intro k _ _ j u hj; simp [slsL] at hj
    | cons y r ih =>
      intro k oky hy j u hj
      have hl : (slL y).length = 38 := slL_len (oky y (by simp)).dig.len
      have e : slsL (y :: r) = slL y ++ slsL r := by simp [slsL]
      rw [e] at hj
      by_cases c : j < 38
      · rw [List.getElem?_append_left (by omega)] at hj
        obtain ⟨a', ea, _, h2⟩ := hy 0 y rfl
        rw [hb] at ea
        injection ea with ea
        subst ea
        have := h2 j u (by unfold slV; rw [List.getElem?_toArray]; exact hj)
        rw [Pk.add_add] at this
        rw [Nat.add_zero] at this
        exact this
      · rw [List.getElem?_append_right (by omega), hl] at hj
        have := ih (k + 1) (fun y hy => oky y (by simp [hy])) (fun j x hj => by
          obtain ⟨a', ea, eb, h2⟩ := hy (j + 1) x (by simpa using hj)
          exact ⟨a', ea, eb, by rw [show (k + 1 + j) = (k + (j + 1)) by omega]; exact h2⟩) (j - 38) u hj
        rw [show (k + 1) * 38 + (j - 38) = k * 38 + j by omega] at this
        exact this
  intro j u hj
  have := gen xs 0 ok (fun j x hj => by
    obtain ⟨a', ea, eb, h2⟩ := hc j x hj
    exact ⟨a', ea, eb, by rw [Nat.zero_add]; exact h2⟩) j u hj
  rwa [Nat.zero_mul, Nat.zero_add] at this
section
variable {w0 w w' : World} {u r : Nat} {E : Dk} {v : Value} {L : Lg} {X : List (Nat × Obj)} {xs : List Sp}
/-- what the document's Rewrite answers -/
def RRewRaw (w0 : World) (u r : Nat) (E : Dk) (v : Value) (L : Lg) (xs : List Sp) (X : List (Nat × Obj)) (e : Ending) (w' : World) : Prop :=
  (xs.all canB = false ∧ e = .returned (.int .i64 1) ∧ HasQ w0 w' u r E v L X) ∨
  (xs.all canB = true ∧ (repl E (recsB xs)).1 ≠ 0 ∧ e = .returned (.int .i64 (repl E (recsB xs)).1) ∧ HasQ w0 w' u r (repl E (recsB xs)).2 v L X) ∨
  (xs.all canB = true ∧ (repl E (recsB xs)).1 = 0 ∧ e = .returned (.int .i64 0) ∧ ∃ v', HasQ w0 w' u r (repl E (recsB xs)).2 v' ⟨(xs.length : Int), ((recsB xs).length : Int), (xs.length : Int), false⟩ X ∧ w'.ownsRow w0.heap.size 39 38 v' xs.length (slsL xs))
set_option maxHeartbeats 8000000 in
theorem rrew_none (h : HasQ w0 w u r E v L X) (pw : E.Pw) (ho : E.ops + 5 ≤ 1099511627776) :
    Calls Tryz.prog 26 #[.pointer (some ⟨r, 0, none⟩), .slice none 0 0] w fun e w' => RRewRaw w0 u r E v L [] X e w' := by
  go_enter Tryz.func26, Tryz.ntmps26
  go_wp2
  go_loopw [5, 6] (fun sv i wr => ∃ (z : World), z = wr ∧ i = .int .i64 0 ∧ sv = .string ⟨#[]⟩ ∧ HasQ w0 z u r E v L X) (fun _ _ _ => 0)
  case atStart => exact ⟨_, rfl, rfl, rfl, h⟩
  case round =>
    clear h
    obtain ⟨z, rfl, rfl, rfl, h⟩ := hrel
    have ok0 := h.ok
    have hxs : recsB ([] : List Sp) = [] := rfl
    cases hD : disc E with
    | mk e1 E1 =>
    cases hC : E1.create nN with
    | mk e2 E2 =>
    cases hF : fill E2 (recsB []) with
    | mk e3 E3 =>
    cases hS : E3.sync nN with
    | mk e4 E4 =>
    cases hN : E4.rename nN dN with
    | mk e5 E5 =>
    have LE := Lib.hid (repl_eq hD hC hF hS hN)
    have p1 : E1.Pw := by have := disc_pw pw ok0; rw [hD] at this; exact this
    have k1 : E1.Ok := by have := disc_okd ok0; rw [hD] at this; exact this
    have p2 : E2.Pw := by have := (Pk.steps_create p1 k1 nN).1; rw [hC] at this; exact this
    have k2 : E2.Ok := by have := create_okd k1 nN; rw [hC] at this; exact this
    have p3 : E3.Pw := by have := fill_pw p2 k2 (recsB []); rw [hF] at this; exact this
    have k3 : E3.Ok := by have := fill_okd k2 (recsB []); rw [hF] at this; exact this
    have p4 : E4.Pw := by have := (Pk.steps_sync p3 k3 nN).1; rw [hS] at this; exact this
    have o1 : E1.ops ≤ E.ops + 1 := by have := disc_ops E; rw [hD] at this; exact this.2
    have o2 : E2.ops ≤ E1.ops + 1 := by have := create_ops E1 nN; rw [hC] at this; exact this.2
    have o3 : E3.ops ≤ E2.ops + 1 := by have := fill_ops E2 (recsB []); rw [hF] at this; exact this.2
    have o4 : E4.ops ≤ E3.ops + 1 := by have := sync_ops E3 nN; rw [hS] at this; exact this.2
    clear k1 k2 k3 ok0
    cases hg1 : getF nN E.L with
    | none =>
      as_aux_lemma =>
        rw [disc_none hg1] at hD
        injection hD with hD1 hD2
        subst hD1
        subst hD2
        have PN := Lib.hid fun z (h : HasQ w0 z u r E v L X) => place_no h.d nS hg1
        clear hg1
        rw [hxs, fill_no] at hF
        injection hF with hF1 hF2
        subst hF1
        subst hF2
        have CC := Lib.hid fun z (h : HasQ w0 z u r E v L X) => rh_create h.d p1 (by omega) (s := nS) (by decide)
        rw [kl_nS, hC] at CC
        have CS := Lib.hid fun z (h : HasQ w0 z u r E2 v L X) => rh_sync h.d p3 (by omega) (s := nS) (by decide)
        rw [kl_nS, hS] at CS
        have CN := Lib.hid fun z (h : HasQ w0 z u r E4 v L X) => rh_rename h.d p4 (by omega) (s := nS) (t := dS) (by decide) (by decide)
        rw [kl_nS, kl_dS, hN] at CN
        have HXS := Lib.hid hxs
        clear hC hS hN p1 p2 p3 p4 o1 o2 o3 o4 hxs
        have c0 : z.cell? ⟨r, 0, none⟩ = some (.pointer (some ⟨u, 0, none⟩)) := h.at.cell 0
        go_wp2_with fail
        refine (PN.out _ h).mono ?_
        rintro e w' ⟨rfl, e'⟩
        replace e' := e'.symm
        subst e'
        clear c0 PN
        have c0 : z.cell? ⟨r, 0, none⟩ = some (.pointer (some ⟨u, 0, none⟩)) := h.at.cell 0
        go_wp2_with fail
        refine (CC.out _ h).mono ?_
        rintro e w2 ⟨rfl, h3⟩
        replace h : HasQ w0 w2 u r E2 v L X := ⟨h3, h.hq, h.hx⟩
        clear c0 CC h3
        by_cases c2 : e2 = 0
        rotate_left
        · have n2 : (e2 != 0) = true := by simpa using c2
          go_wp2
          go_ret
          have LE := LE.out
          rw [if_neg (by simp), if_pos c2] at LE
          exact .inr (.inl ⟨rfl, by rw [LE]; exact c2, by rw [LE]; rfl, by rw [LE]; exact h⟩)
        subst c2
        have c0 : w2.cell? ⟨r, 0, none⟩ = some (.pointer (some ⟨u, 0, none⟩)) := h.at.cell 0
        go_wp2_with fail
        refine (CS.out _ h).mono ?_
        rintro e w4 ⟨rfl, h3⟩
        replace h : HasQ w0 w4 u r E4 v L X := ⟨h3, h.hq, h.hx⟩
        clear c0 CS h3
        by_cases c4 : e4 = 0
        rotate_left
        · have n4 : (e4 != 0) = true := by simpa using c4
          go_wp2
          go_ret
          have LE := LE.out
          rw [if_neg (by simp), if_neg (by simp), if_neg (by simp), if_pos c4] at LE
          exact .inr (.inl ⟨rfl, by rw [LE]; exact c4, by rw [LE]; rfl, by rw [LE]; exact h⟩)
        subst c4
        have c0 : w4.cell? ⟨r, 0, none⟩ = some (.pointer (some ⟨u, 0, none⟩)) := h.at.cell 0
        go_wp2_with fail
        refine (CN.out _ h).mono ?_
        rintro e w5 ⟨rfl, h3⟩
        replace h : HasQ w0 w5 u r E5 v L X := ⟨h3, h.hq, h.hx⟩
        clear c0 CN h3
        by_cases c5 : e5 = 0
        rotate_left
        · have n5 : (e5 != 0) = true := by simpa using c5
          go_wp2
          go_ret
          have LE := LE.out
          rw [if_neg (by simp), if_neg (by simp), if_neg (by simp), if_neg (by simp)] at LE
          exact .inr (.inl ⟨rfl, by rw [LE]; exact c5, by rw [LE]; rfl, by rw [LE]; exact h⟩)
        subst c5
        obtain ⟨i0, hi, hz0, hz1, hz2⟩ := info_parts infoSl
        have b0 : Below w5.heap.size w5 (w5.alloc (.cells #[] 39)) := (Below.refl _ _).alloc (Nat.le_refl _) _
        have own0 := World.ownsRow_made (base := w5.heap.size) (e := 39) (size := 38) w5 #[] 0 (Nat.le_refl _) (Nat.zero_le _) rfl
        have mw := h.below.size
        have h6 := h.alloc (.cells #[] 39)
        have own := owns_mono own0 mw
        have c1 : (w5.alloc (.cells #[] 39)).cell? ⟨r, 1, none⟩ = some v := h6.at.cell 1
        have f1 := h6.at.frozen 1
        go_upto_region 26 with (first | (at_builtin; refine wpList_append_own_none rfl _ _ 29 rfl w5.heap.size 39 i0 38 Tryz.underlying29 hi _ _ _ rfl own0 rfl ?_))
        clear c1 f1 own0 b0 mw h
        generalize w5.heap.size = B at own ⊢
        generalize (w5.alloc (.cells #[] 39)) = w6 at h6 own ⊢
        have HW := Lib.hid (show ((0 : Nat) : Int) = 0 from rfl)
        have h7 : HasQ w0 (w6.setCell ⟨r, 1, none⟩ (.slice (some ⟨B, 0, none⟩) 0 0)) u r E5 (.slice (some ⟨B, 0, none⟩) 0 0) ⟨L.n, L.b, L.s, L.k⟩ X := h6.set (v' := .slice (some ⟨B, 0, none⟩) 0 0) (L' := ⟨L.n, L.b, L.s, L.k⟩) 1 (.slice (some ⟨B, 0, none⟩) 0 0) rfl
        replace own := (h6.kset 1 (.slice (some ⟨B, 0, none⟩) 0 0)).owns own
        clear h6
        generalize w6.setCell ⟨r, 1, none⟩ (.slice (some ⟨B, 0, none⟩) 0 0) = w7 at h7 own ⊢
        have c2 : w7.cell? ⟨r, 2, none⟩ = some (.int .i64 L.s) := h7.at.cell 2
        have f2 := h7.at.frozen 2
        go_upto_region 27 with fail
        clear c2 f2
        have h8 : HasQ w0 (w7.setCell ⟨r, 2, none⟩ (.int .i64 0)) u r E5 (.slice (some ⟨B, 0, none⟩) 0 0) ⟨L.n, L.b, 0, L.k⟩ X := h7.set (v' := .slice (some ⟨B, 0, none⟩) 0 0) (L' := ⟨L.n, L.b, 0, L.k⟩) 2 (.int .i64 0) rfl
        replace own := (h7.kset 2 (.int .i64 0)).owns own
        clear h7
        generalize w7.setCell ⟨r, 2, none⟩ (.int .i64 0) = w8 at h8 own ⊢
        have c3 : w8.cell? ⟨r, 3, none⟩ = some (.int .i64 L.b) := h8.at.cell 3
        have f3 := h8.at.frozen 3
        go_upto_region 28 with fail
        clear c3 f3
        have h9 : HasQ w0 (w8.setCell ⟨r, 3, none⟩ (.int .i64 0)) u r E5 (.slice (some ⟨B, 0, none⟩) 0 0) ⟨L.n, 0, 0, L.k⟩ X := h8.set (v' := .slice (some ⟨B, 0, none⟩) 0 0) (L' := ⟨L.n, 0, 0, L.k⟩) 3 (.int .i64 0) rfl
        replace own := (h8.kset 3 (.int .i64 0)).owns own
        clear h8
        generalize w8.setCell ⟨r, 3, none⟩ (.int .i64 0) = w9 at h9 own ⊢
        have c4 : w9.cell? ⟨r, 4, none⟩ = some (.bool L.k) := h9.at.cell 4
        have f4 := h9.at.frozen 4
        have h10 : HasQ w0 (w9.setCell ⟨r, 4, none⟩ (.bool false)) u r E5 (.slice (some ⟨B, 0, none⟩) 0 0) ⟨0, 0, 0, false⟩ X := h9.set (v' := .slice (some ⟨B, 0, none⟩) 0 0) (L' := ⟨0, 0, 0, false⟩) 4 (.bool false) rfl
        replace own := (h9.kset 4 (.bool false)).owns own
        clear h9
        go_wp2
        go_ret
        have LE := LE.out
        rw [if_neg (by simp), if_neg (by simp), if_neg (by simp), if_neg (by simp)] at LE
        exact .inr (.inr ⟨rfl, by rw [LE], rfl, _, by rw [LE]; exact h10, own⟩)
    | some fn =>
      as_aux_lemma =>
        rw [disc_some hg1] at hD
        obtain ⟨nn, hnn⟩ := place_at hg1
        have PS := Lib.hid fun z (h : HasQ w0 z u r E v L X) => place_is h.d nS hnn hg1
        have CD := Lib.hid fun z (h : HasQ w0 z u r E v L X) => rh_delete h.d pw (by omega) (s := nS) (by decide)
        rw [kl_nS, hD] at CD
        have n0 : (0 : Int) ≤ (nn : Int) := by omega
        clear hg1 hnn hD
        rw [hxs, fill_no] at hF
        injection hF with hF1 hF2
        subst hF1
        subst hF2
        have CC := Lib.hid fun z (h : HasQ w0 z u r E1 v L X) => rh_create h.d p1 (by omega) (s := nS) (by decide)
        rw [kl_nS, hC] at CC
        have CS := Lib.hid fun z (h : HasQ w0 z u r E2 v L X) => rh_sync h.d p3 (by omega) (s := nS) (by decide)
        rw [kl_nS, hS] at CS
        have CN := Lib.hid fun z (h : HasQ w0 z u r E4 v L X) => rh_rename h.d p4 (by omega) (s := nS) (t := dS) (by decide) (by decide)
        rw [kl_nS, kl_dS, hN] at CN
        have HXS := Lib.hid hxs
        clear hC hS hN p1 p2 p3 p4 o1 o2 o3 o4 hxs
        have c0 : z.cell? ⟨r, 0, none⟩ = some (.pointer (some ⟨u, 0, none⟩)) := h.at.cell 0
        go_wp2_with fail
        refine (PS.out _ h).mono ?_
        rintro e w' ⟨rfl, e'⟩
        replace e' := e'.symm
        subst e'
        clear c0 PS
        have c0 : z.cell? ⟨r, 0, none⟩ = some (.pointer (some ⟨u, 0, none⟩)) := h.at.cell 0
        go_wp2_with fail
        refine (CD.out _ h).mono ?_
        rintro e w1 ⟨rfl, h3⟩
        replace h : HasQ w0 w1 u r E1 v L X := ⟨h3, h.hq, h.hx⟩
        clear c0 CD h3
        by_cases c1 : e1 = 0
        rotate_left
        · have n1 : (e1 != 0) = true := by simpa using c1
          go_wp2
          go_ret
          have LE := LE.out
          rw [if_pos c1] at LE
          exact .inr (.inl ⟨rfl, by rw [LE]; exact c1, by rw [LE]; rfl, by rw [LE]; exact h⟩)
        subst c1
        have c0 : w1.cell? ⟨r, 0, none⟩ = some (.pointer (some ⟨u, 0, none⟩)) := h.at.cell 0
        go_wp2_with fail
        refine (CC.out _ h).mono ?_
        rintro e w2 ⟨rfl, h3⟩
        replace h : HasQ w0 w2 u r E2 v L X := ⟨h3, h.hq, h.hx⟩
        clear c0 CC h3
        by_cases c2 : e2 = 0
        rotate_left
        · have n2 : (e2 != 0) = true := by simpa using c2
          go_wp2
          go_ret
          have LE := LE.out
          rw [if_neg (by simp), if_pos c2] at LE
          exact .inr (.inl ⟨rfl, by rw [LE]; exact c2, by rw [LE]; rfl, by rw [LE]; exact h⟩)
        subst c2
        have c0 : w2.cell? ⟨r, 0, none⟩ = some (.pointer (some ⟨u, 0, none⟩)) := h.at.cell 0
        go_wp2_with fail
        refine (CS.out _ h).mono ?_
        rintro e w4 ⟨rfl, h3⟩
        replace h : HasQ w0 w4 u r E4 v L X := ⟨h3, h.hq, h.hx⟩
        clear c0 CS h3
        by_cases c4 : e4 = 0
        rotate_left
        · have n4 : (e4 != 0) = true := by simpa using c4
          go_wp2
          go_ret
          have LE := LE.out
          rw [if_neg (by simp), if_neg (by simp), if_neg (by simp), if_pos c4] at LE
          exact .inr (.inl ⟨rfl, by rw [LE]; exact c4, by rw [LE]; rfl, by rw [LE]; exact h⟩)
        subst c4
        have c0 : w4.cell? ⟨r, 0, none⟩ = some (.pointer (some ⟨u, 0, none⟩)) := h.at.cell 0
        go_wp2_with fail
        refine (CN.out _ h).mono ?_
        rintro e w5 ⟨rfl, h3⟩
        replace h : HasQ w0 w5 u r E5 v L X := ⟨h3, h.hq, h.hx⟩
        clear c0 CN h3
        by_cases c5 : e5 = 0
        rotate_left
        · have n5 : (e5 != 0) = true := by simpa using c5
          go_wp2
          go_ret
          have LE := LE.out
          rw [if_neg (by simp), if_neg (by simp), if_neg (by simp), if_neg (by simp)] at LE
          exact .inr (.inl ⟨rfl, by rw [LE]; exact c5, by rw [LE]; rfl, by rw [LE]; exact h⟩)
        subst c5
        obtain ⟨i0, hi, hz0, hz1, hz2⟩ := info_parts infoSl
        have b0 : Below w5.heap.size w5 (w5.alloc (.cells #[] 39)) := (Below.refl _ _).alloc (Nat.le_refl _) _
        have own0 := World.ownsRow_made (base := w5.heap.size) (e := 39) (size := 38) w5 #[] 0 (Nat.le_refl _) (Nat.zero_le _) rfl
        have mw := h.below.size
        have h6 := h.alloc (.cells #[] 39)
        have own := owns_mono own0 mw
        have c1 : (w5.alloc (.cells #[] 39)).cell? ⟨r, 1, none⟩ = some v := h6.at.cell 1
        have f1 := h6.at.frozen 1
        go_upto_region 26 with (first | (at_builtin; refine wpList_append_own_none rfl _ _ 29 rfl w5.heap.size 39 i0 38 Tryz.underlying29 hi _ _ _ rfl own0 rfl ?_))
        clear c1 f1 own0 b0 mw h
        generalize w5.heap.size = B at own ⊢
        generalize (w5.alloc (.cells #[] 39)) = w6 at h6 own ⊢
        have HW := Lib.hid (show ((0 : Nat) : Int) = 0 from rfl)
        have h7 : HasQ w0 (w6.setCell ⟨r, 1, none⟩ (.slice (some ⟨B, 0, none⟩) 0 0)) u r E5 (.slice (some ⟨B, 0, none⟩) 0 0) ⟨L.n, L.b, L.s, L.k⟩ X := h6.set (v' := .slice (some ⟨B, 0, none⟩) 0 0) (L' := ⟨L.n, L.b, L.s, L.k⟩) 1 (.slice (some ⟨B, 0, none⟩) 0 0) rfl
        replace own := (h6.kset 1 (.slice (some ⟨B, 0, none⟩) 0 0)).owns own
        clear h6
        generalize w6.setCell ⟨r, 1, none⟩ (.slice (some ⟨B, 0, none⟩) 0 0) = w7 at h7 own ⊢
        have c2 : w7.cell? ⟨r, 2, none⟩ = some (.int .i64 L.s) := h7.at.cell 2
        have f2 := h7.at.frozen 2
        go_upto_region 27 with fail
        clear c2 f2
        have h8 : HasQ w0 (w7.setCell ⟨r, 2, none⟩ (.int .i64 0)) u r E5 (.slice (some ⟨B, 0, none⟩) 0 0) ⟨L.n, L.b, 0, L.k⟩ X := h7.set (v' := .slice (some ⟨B, 0, none⟩) 0 0) (L' := ⟨L.n, L.b, 0, L.k⟩) 2 (.int .i64 0) rfl
        replace own := (h7.kset 2 (.int .i64 0)).owns own
        clear h7
        generalize w7.setCell ⟨r, 2, none⟩ (.int .i64 0) = w8 at h8 own ⊢
        have c3 : w8.cell? ⟨r, 3, none⟩ = some (.int .i64 L.b) := h8.at.cell 3
        have f3 := h8.at.frozen 3
        go_upto_region 28 with fail
        clear c3 f3
        have h9 : HasQ w0 (w8.setCell ⟨r, 3, none⟩ (.int .i64 0)) u r E5 (.slice (some ⟨B, 0, none⟩) 0 0) ⟨L.n, 0, 0, L.k⟩ X := h8.set (v' := .slice (some ⟨B, 0, none⟩) 0 0) (L' := ⟨L.n, 0, 0, L.k⟩) 3 (.int .i64 0) rfl
        replace own := (h8.kset 3 (.int .i64 0)).owns own
        clear h8
        generalize w8.setCell ⟨r, 3, none⟩ (.int .i64 0) = w9 at h9 own ⊢
        have c4 : w9.cell? ⟨r, 4, none⟩ = some (.bool L.k) := h9.at.cell 4
        have f4 := h9.at.frozen 4
        have h10 : HasQ w0 (w9.setCell ⟨r, 4, none⟩ (.bool false)) u r E5 (.slice (some ⟨B, 0, none⟩) 0 0) ⟨0, 0, 0, false⟩ X := h9.set (v' := .slice (some ⟨B, 0, none⟩) 0 0) (L' := ⟨0, 0, 0, false⟩) 4 (.bool false) rfl
        replace own := (h9.kset 4 (.bool false)).owns own
        clear h9
        go_wp2
        go_ret
        have LE := LE.out
        rw [if_neg (by simp), if_neg (by simp), if_neg (by simp), if_neg (by simp)] at LE
        exact .inr (.inr ⟨rfl, by rw [LE], rfl, _, by rw [LE]; exact h10, own⟩)
set_option maxHeartbeats 8000000 in
theorem rrew_some (h : HasQ w0 w u r E v L X) (pw : E.Pw) (ho : E.ops + 5 ≤ 1099511627776) {a1 : Addr} {cap1 : Nat} (hv : SlsAt w0 (.slice (some a1) xs.length cap1) xs) (hl : xs.length ≤ 100000) :
    Calls Tryz.prog 26 #[.pointer (some ⟨r, 0, none⟩), .slice (some a1) xs.length cap1] w fun e w' => RRewRaw w0 u r E v L xs X e w' := by
  have SLS := Lib.hid fun z (b : Below w0.heap.size w0 z) => hv.below b
  have OKL := Lib.hid hv.ok
  obtain ⟨n1, hn1⟩ : ∃ n1, n1 = xs.length := ⟨_, rfl⟩
  rw [← hn1] at SLS hl ⊢
  have HN1 := Lib.hid hn1
  clear hn1 hv
  go_enter Tryz.func26, Tryz.ntmps26
  go_wp2
  go_loopw [5, 6] (fun sv i wr => ∃ (z : World) (k : Nat), z = wr ∧ k ≤ n1 ∧ i = .int .i64 k ∧ sv = .string (Cr.strOf (recs (xs.take k))) ∧ HasQ w0 z u r E v L X ∧ ∀ x ∈ xs.take k, Can x) (fun _ i _ => n1 - (intOf i).toNat)
  case atStart => exact ⟨_, 0, rfl, Nat.zero_le _, rfl, by simp [recs, Cr.strOf], h, by simp⟩
  case round =>
    clear h
    obtain ⟨z, k, rfl, hk, rfl, rfl, h, can⟩ := hrel
    have hrl := recs_len_le can
    rw [List.length_take] at hrl
    have hts : (Cr.strOf (recs (xs.take k))).size ≤ 41400000 := by rw [strOf_size]; omega
    obtain ⟨T, hT⟩ : ∃ T, T = Cr.strOf (recs (xs.take k)) := ⟨_, rfl⟩
    rw [← hT] at hts ⊢
    have HT := Lib.hid hT
    clear hT hrl
    by_cases hlt : k < n1
    · obtain ⟨x, hx⟩ : ∃ x, xs[k]? = some x := ⟨xs[k]'(by have := HN1.out; omega), List.getElem?_eq_getElem _⟩
      have xok := OKL.out x (List.mem_of_getElem? hx)
      obtain ⟨a2, e2, _, LX⟩ := (SLS.out z h.below).loads hx
      injection e2 with e2
      subst e2
      have LXH := Lib.hid fun z (b : Below w0.heap.size w0 z) => show Loads Tryz.prog z 39 (a1.add (k * 38)) (slV x) from by
        obtain ⟨a, e, _, l⟩ := (SLS.out z b).loads hx
        injection e with e
        subst e
        exact l
      have l1 : (k : Int) < (n1 : Int) := by omega
      have G1 := Lib.hid fun z => rgood_any x z xok
      have HXK := Lib.hid hx
      clear hx
      have CAN := Lib.hid can
      clear can
      cases hc : canB x with
      | false =>
        rw [hc] at G1
        go_wp2_with (refine wpl_load LX rfl rfl rfl ?_)
        refine (G1.out _).mono ?_
        rintro e w2 ⟨rfl, B2⟩
        replace h := h.kept B2
        clear LX B2 G1
        go_wp2
        go_ret
        exact .inl ⟨all_no HXK.out (fun c => by rw [canB_yes c] at hc; cases hc), rfl, h⟩
      | true =>
        rw [hc] at G1
        have can1 : Can x := canB_iff.1 hc
        have bl2 := body_len can1
        have G2 := Lib.hid fun z => rbody_any x z can1
        have G3 := Lib.hid fun z => framed_any (Cr.strOf (bodyL x)) z (by rw [strOf_size]; omega)
        rw [bl_strOf (body_lt xok.dig)] at G3
        have hz : (Cr.strOf (recL (bodyL x))).size ≤ 414 := by rw [strOf_size, rec_len]; omega
        have hs : Cr.strOf (recs (xs.take (k + 1))) = T ++ Cr.strOf (recL (bodyL x)) := by rw [HT.out, recs_snoc_take HXK.out, strOf_append]
        have HS := Lib.hid hs
        have HC := Lib.hid (can_snoc HXK.out can1 CAN.out)
        clear hs bl2 can1 CAN hc
        generalize Cr.strOf (recL (bodyL x)) = s at G3 hz HS
        generalize Cr.strOf (bodyL x) = b at G2 G3
        go_wp2_with (refine wpl_load LX rfl rfl rfl ?_)
        refine (G1.out _).mono ?_
        rintro e w2 ⟨rfl, B2⟩
        replace h := h.kept B2
        clear LX B2 G1
        have LX := LXH.out _ h.below
        go_wp2_with (refine wpl_load LX rfl rfl rfl ?_)
        refine (G2.out _).mono ?_
        rintro e w3 ⟨rfl, B3⟩
        replace h := h.kept B3
        clear LX B3 G2
        go_wp2_with fail
        refine (G3.out _).mono ?_
        rintro e w4 ⟨rfl, B4⟩
        replace h := h.kept B4
        clear B4 G3
        go_wp2
        go_roundw
        case rel => exact ⟨_, k + 1, rfl, by omega, by go_num, by rw [HS.out], h, HC.out⟩
        case measure => simp [intOf]; omega
    · obtain rfl : k = n1 := by omega
      have ht : xs.take k = xs := List.take_of_length_le (by have := HN1.out; omega)
      rw [ht] at can
      have HT2 : T = Cr.strOf (recs xs) := by rw [HT.out, ht]
      have KT : kl T = recsB xs := by rw [HT2, kl_strOf]; rfl
      have CAN := Lib.hid can
      have OKX := Lib.hid OKL.out
      have l1 : ¬ (k : Int) < (k : Int) := by omega
      have ok0 := h.ok
      clear can ht HT HT2 OKL
      cases hD : disc E with
      | mk e1 E1 =>
      cases hC : E1.create nN with
      | mk e2 E2 =>
      cases hF : fill E2 (recsB xs) with
      | mk e3 E3 =>
      cases hS : E3.sync nN with
      | mk e4 E4 =>
      cases hN : E4.rename nN dN with
      | mk e5 E5 =>
      have LE := Lib.hid (repl_eq hD hC hF hS hN)
      have p1 : E1.Pw := by have := disc_pw pw ok0; rw [hD] at this; exact this
      have k1 : E1.Ok := by have := disc_okd ok0; rw [hD] at this; exact this
      have p2 : E2.Pw := by have := (Pk.steps_create p1 k1 nN).1; rw [hC] at this; exact this
      have k2 : E2.Ok := by have := create_okd k1 nN; rw [hC] at this; exact this
      have p3 : E3.Pw := by have := fill_pw p2 k2 (recsB xs); rw [hF] at this; exact this
      have k3 : E3.Ok := by have := fill_okd k2 (recsB xs); rw [hF] at this; exact this
      have p4 : E4.Pw := by have := (Pk.steps_sync p3 k3 nN).1; rw [hS] at this; exact this
      have o1 : E1.ops ≤ E.ops + 1 := by have := disc_ops E; rw [hD] at this; exact this.2
      have o2 : E2.ops ≤ E1.ops + 1 := by have := create_ops E1 nN; rw [hC] at this; exact this.2
      have o3 : E3.ops ≤ E2.ops + 1 := by have := fill_ops E2 (recsB xs); rw [hF] at this; exact this.2
      have o4 : E4.ops ≤ E3.ops + 1 := by have := sync_ops E3 nN; rw [hS] at this; exact this.2
      clear k1 k2 k3 ok0
      cases hg1 : getF nN E.L with
      | none =>
        by_cases hxs : recsB xs = []
        · as_aux_lemma =>
            rw [disc_none hg1] at hD
            injection hD with hD1 hD2
            subst hD1
            subst hD2
            have PN := Lib.hid fun z (h : HasQ w0 z u r E v L X) => place_no h.d nS hg1
            clear hg1
            rw [hxs, fill_no] at hF
            injection hF with hF1 hF2
            subst hF1
            subst hF2
            have CC := Lib.hid fun z (h : HasQ w0 z u r E v L X) => rh_create h.d p1 (by omega) (s := nS) (by decide)
            rw [kl_nS, hC] at CC
            have CS := Lib.hid fun z (h : HasQ w0 z u r E2 v L X) => rh_sync h.d p3 (by omega) (s := nS) (by decide)
            rw [kl_nS, hS] at CS
            have CN := Lib.hid fun z (h : HasQ w0 z u r E4 v L X) => rh_rename h.d p4 (by omega) (s := nS) (t := dS) (by decide) (by decide)
            rw [kl_nS, kl_dS, hN] at CN
            have HXS := Lib.hid hxs
            clear hC hS hN p1 p2 p3 p4 o1 o2 o3 o4 hxs
            have KTH := Lib.hid KT
            clear KT
            have c0 : z.cell? ⟨r, 0, none⟩ = some (.pointer (some ⟨u, 0, none⟩)) := h.at.cell 0
            go_wp2_with fail
            refine (PN.out _ h).mono ?_
            rintro e w' ⟨rfl, e'⟩
            replace e' := e'.symm
            subst e'
            clear c0 PN
            have c0 : z.cell? ⟨r, 0, none⟩ = some (.pointer (some ⟨u, 0, none⟩)) := h.at.cell 0
            go_wp2_with fail
            refine (CC.out _ h).mono ?_
            rintro e w2 ⟨rfl, h3⟩
            replace h : HasQ w0 w2 u r E2 v L X := ⟨h3, h.hq, h.hx⟩
            clear c0 CC h3
            by_cases c2 : e2 = 0
            rotate_left
            · have n2 : (e2 != 0) = true := by simpa using c2
              go_wp2
              go_ret
              have LE := LE.out
              rw [if_neg (by simp), if_pos c2] at LE
              exact .inr (.inl ⟨allCan.2 CAN.out, by rw [LE]; exact c2, by rw [LE]; rfl, by rw [LE]; exact h⟩)
            subst c2
            have e1 : T.toList.isEmpty = true := isE (by rw [← Pk.kl_len, KTH.out, HXS.out]; rfl)
            have c0 : w2.cell? ⟨r, 0, none⟩ = some (.pointer (some ⟨u, 0, none⟩)) := h.at.cell 0
            go_wp2_with fail
            refine (CS.out _ h).mono ?_
            rintro e w4 ⟨rfl, h3⟩
            replace h : HasQ w0 w4 u r E4 v L X := ⟨h3, h.hq, h.hx⟩
            clear c0 CS h3
            by_cases c4 : e4 = 0
            rotate_left
            · have n4 : (e4 != 0) = true := by simpa using c4
              go_wp2
              go_ret
              have LE := LE.out
              rw [if_neg (by simp), if_neg (by simp), if_neg (by simp), if_pos c4] at LE
              exact .inr (.inl ⟨allCan.2 CAN.out, by rw [LE]; exact c4, by rw [LE]; rfl, by rw [LE]; exact h⟩)
            subst c4
            have c0 : w4.cell? ⟨r, 0, none⟩ = some (.pointer (some ⟨u, 0, none⟩)) := h.at.cell 0
            go_wp2_with fail
            refine (CN.out _ h).mono ?_
            rintro e w5 ⟨rfl, h3⟩
            replace h : HasQ w0 w5 u r E5 v L X := ⟨h3, h.hq, h.hx⟩
            clear c0 CN h3
            by_cases c5 : e5 = 0
            rotate_left
            · have n5 : (e5 != 0) = true := by simpa using c5
              go_wp2
              go_ret
              have LE := LE.out
              rw [if_neg (by simp), if_neg (by simp), if_neg (by simp), if_neg (by simp)] at LE
              exact .inr (.inl ⟨allCan.2 CAN.out, by rw [LE]; exact c5, by rw [LE]; rfl, by rw [LE]; exact h⟩)
            subst c5
            obtain ⟨i0, hi, hz0, hz1, hz2⟩ := info_parts infoSl
            have b0 : Below w5.heap.size w5 (w5.alloc (.cells #[] 39)) := (Below.refl _ _).alloc (Nat.le_refl _) _
            have own0 := World.ownsRow_made (base := w5.heap.size) (e := 39) (size := 38) w5 #[] 0 (Nat.le_refl _) (Nat.zero_le _) rfl
            have mw := h.below.size
            have cs := Lib.hid (sls_cells (SLS.out _ (h.kept b0).below) rfl)
            have hlen := Lib.hid (slsL_len OKX.out)
            have hn2 := Lib.hid HN1.out
            go_upto_region 25 with fail
            go_upto_region 26 with (first | (at_builtin; refine wpList_append_own _ rfl _ _ 29 rfl w5.heap.size 39 i0 (.agg #[.int .i64 0, .string ⟨#[]⟩, .string ⟨#[]⟩, .int .u8 0, .int .u8 0, .int .u8 0, .int .u8 0, .int .u8 0, .int .u8 0, .int .u8 0, .int .u8 0, .int .u8 0, .int .u8 0, .int .u8 0, .int .u8 0, .int .u8 0, .int .u8 0, .int .u8 0, .int .u8 0, .int .u8 0, .int .u8 0, .int .u8 0, .int .u8 0, .int .u8 0, .int .u8 0, .int .u8 0, .int .u8 0, .int .u8 0, .int .u8 0, .int .u8 0, .int .u8 0, .int .u8 0, .int .u8 0, .int .u8 0, .int .u8 0, .string ⟨#[]⟩, .int .i64 0, .int .i64 0]) 38 104 Tryz.underlying29 hi hz0 hz1 hz2 rfl (by decide) _ _ _ rfl own0 _ _ _ (slsL xs) rfl ?c0 ?c1 (slsL_one xs) ?c3 ?c4 ?c5 ?_))
            case c0 => rw [hlen.out, hn2.out]
            case c1 => exact cs.out
            case c3 => unfold maxLen; omega
            case c4 => omega
            case c5 => simp
            intro v' w6 own4 hgrow _
            have b6 := b0.grown hgrow b0.size fun q hq => (own0.lt q hq).1
            have h6 := h.kept b6
            have own : w6.ownsRow w0.heap.size 39 38 v' k (slsL xs) := by
              have := owns_mono own4 mw
              simpa using this
            clear own4 hgrow own0 b0 b6 mw h cs hlen
            obtain ⟨g9, n9, cap9, rfl⟩ : ∃ g n c, v' = .slice g n c := by
              rcases own.2 with ⟨rfl, _⟩ | ⟨g, cap, cur, rfl, _⟩
              · exact ⟨_, _, _, rfl⟩
              · exact ⟨_, _, _, rfl⟩
            have c1 : w6.cell? ⟨r, 1, none⟩ = some v := h6.at.cell 1
            have f1 := h6.at.frozen 1
            go_upto_region 26 with fail
            clear c1 f1
            have h7 : HasQ w0 (w6.setCell ⟨r, 1, none⟩ (.slice g9 n9 cap9)) u r E5 (.slice g9 n9 cap9) ⟨L.n, L.b, L.s, L.k⟩ X := h6.set (v' := .slice g9 n9 cap9) (L' := ⟨L.n, L.b, L.s, L.k⟩) 1 (.slice g9 n9 cap9) rfl
            replace own := (h6.kset 1 (.slice g9 n9 cap9)).owns own
            clear h6
            generalize w6.setCell ⟨r, 1, none⟩ (.slice g9 n9 cap9) = w7 at h7 own ⊢
            have c2 : w7.cell? ⟨r, 2, none⟩ = some (.int .i64 L.s) := h7.at.cell 2
            have f2 := h7.at.frozen 2
            go_upto_region 27 with fail
            clear c2 f2
            have h8 : HasQ w0 (w7.setCell ⟨r, 2, none⟩ (.int .i64 (k : Int))) u r E5 (.slice g9 n9 cap9) ⟨L.n, L.b, (k : Int), L.k⟩ X := h7.set (v' := .slice g9 n9 cap9) (L' := ⟨L.n, L.b, (k : Int), L.k⟩) 2 (.int .i64 (k : Int)) rfl
            replace own := (h7.kset 2 (.int .i64 (k : Int))).owns own
            clear h7
            generalize w7.setCell ⟨r, 2, none⟩ (.int .i64 (k : Int)) = w8 at h8 own ⊢
            have c3 : w8.cell? ⟨r, 3, none⟩ = some (.int .i64 L.b) := h8.at.cell 3
            have f3 := h8.at.frozen 3
            go_upto_region 28 with fail
            clear c3 f3
            have h9 : HasQ w0 (w8.setCell ⟨r, 3, none⟩ (.int .i64 (T.size : Int))) u r E5 (.slice g9 n9 cap9) ⟨L.n, (T.size : Int), (k : Int), L.k⟩ X := h8.set (v' := .slice g9 n9 cap9) (L' := ⟨L.n, (T.size : Int), (k : Int), L.k⟩) 3 (.int .i64 (T.size : Int)) rfl
            replace own := (h8.kset 3 (.int .i64 (T.size : Int))).owns own
            clear h8
            generalize w8.setCell ⟨r, 3, none⟩ (.int .i64 (T.size : Int)) = w9 at h9 own ⊢
            have c4 : w9.cell? ⟨r, 4, none⟩ = some (.bool L.k) := h9.at.cell 4
            have f4 := h9.at.frozen 4
            have h10 : HasQ w0 (w9.setCell ⟨r, 4, none⟩ (.bool false)) u r E5 (.slice g9 n9 cap9) ⟨(k : Int), (T.size : Int), (k : Int), false⟩ X := h9.set (v' := .slice g9 n9 cap9) (L' := ⟨(k : Int), (T.size : Int), (k : Int), false⟩) 4 (.bool false) rfl
            replace own := (h9.kset 4 (.bool false)).owns own
            clear h9
            go_wp2
            go_ret
            have LE := LE.out
            rw [if_neg (by simp), if_neg (by simp), if_neg (by simp), if_neg (by simp)] at LE
            have hn := HN1.out
            have hz : T.size = (recsB xs).length := by rw [← KTH.out, Pk.kl_len]
            subst hn
            rw [hz] at h10
            exact .inr (.inr ⟨allCan.2 CAN.out, by rw [LE], rfl, _, by rw [LE]; exact h10, own⟩)
        · as_aux_lemma =>
            rw [disc_none hg1] at hD
            injection hD with hD1 hD2
            subst hD1
            subst hD2
            have PN := Lib.hid fun z (h : HasQ w0 z u r E v L X) => place_no h.d nS hg1
            clear hg1
            rw [fill_yes hxs] at hF
            have CF := Lib.hid fun z (h : HasQ w0 z u r E2 v L X) => rh_append h.d p2 (by omega) (s := nS) (t := T) (by decide) (by omega)
            rw [kl_nS, KT, hF] at CF
            clear hF
            have CC := Lib.hid fun z (h : HasQ w0 z u r E v L X) => rh_create h.d p1 (by omega) (s := nS) (by decide)
            rw [kl_nS, hC] at CC
            have CS := Lib.hid fun z (h : HasQ w0 z u r E3 v L X) => rh_sync h.d p3 (by omega) (s := nS) (by decide)
            rw [kl_nS, hS] at CS
            have CN := Lib.hid fun z (h : HasQ w0 z u r E4 v L X) => rh_rename h.d p4 (by omega) (s := nS) (t := dS) (by decide) (by decide)
            rw [kl_nS, kl_dS, hN] at CN
            have HXS := Lib.hid hxs
            clear hC hS hN p1 p2 p3 p4 o1 o2 o3 o4 hxs
            have KTH := Lib.hid KT
            clear KT
            have c0 : z.cell? ⟨r, 0, none⟩ = some (.pointer (some ⟨u, 0, none⟩)) := h.at.cell 0
            go_wp2_with fail
            refine (PN.out _ h).mono ?_
            rintro e w' ⟨rfl, e'⟩
            replace e' := e'.symm
            subst e'
            clear c0 PN
            have c0 : z.cell? ⟨r, 0, none⟩ = some (.pointer (some ⟨u, 0, none⟩)) := h.at.cell 0
            go_wp2_with fail
            refine (CC.out _ h).mono ?_
            rintro e w2 ⟨rfl, h3⟩
            replace h : HasQ w0 w2 u r E2 v L X := ⟨h3, h.hq, h.hx⟩
            clear c0 CC h3
            by_cases c2 : e2 = 0
            rotate_left
            · have n2 : (e2 != 0) = true := by simpa using c2
              go_wp2
              go_ret
              have LE := LE.out
              rw [if_neg (by simp), if_pos c2] at LE
              exact .inr (.inl ⟨allCan.2 CAN.out, by rw [LE]; exact c2, by rw [LE]; rfl, by rw [LE]; exact h⟩)
            subst c2
            have e1 : T.toList.isEmpty = false := notE (by rw [← Pk.kl_len, KTH.out]; exact fun c => HXS.out (List.eq_nil_of_length_eq_zero c))
            have c0 : w2.cell? ⟨r, 0, none⟩ = some (.pointer (some ⟨u, 0, none⟩)) := h.at.cell 0
            go_wp2_with fail
            refine (CF.out _ h).mono ?_
            rintro e w3 ⟨rfl, h3⟩
            replace h : HasQ w0 w3 u r E3 v L X := ⟨h3, h.hq, h.hx⟩
            clear c0 CF h3
            by_cases c3 : e3 = 0
            rotate_left
            · have n3 : (e3 != 0) = true := by simpa using c3
              go_wp2
              go_ret
              have LE := LE.out
              rw [if_neg (by simp), if_neg (by simp), if_pos c3] at LE
              exact .inr (.inl ⟨allCan.2 CAN.out, by rw [LE]; exact c3, by rw [LE]; rfl, by rw [LE]; exact h⟩)
            subst c3
            have c0 : w3.cell? ⟨r, 0, none⟩ = some (.pointer (some ⟨u, 0, none⟩)) := h.at.cell 0
            go_wp2_with fail
            refine (CS.out _ h).mono ?_
            rintro e w4 ⟨rfl, h3⟩
            replace h : HasQ w0 w4 u r E4 v L X := ⟨h3, h.hq, h.hx⟩
            clear c0 CS h3
            by_cases c4 : e4 = 0
            rotate_left
            · have n4 : (e4 != 0) = true := by simpa using c4
              go_wp2
              go_ret
              have LE := LE.out
              rw [if_neg (by simp), if_neg (by simp), if_neg (by simp), if_pos c4] at LE
              exact .inr (.inl ⟨allCan.2 CAN.out, by rw [LE]; exact c4, by rw [LE]; rfl, by rw [LE]; exact h⟩)
            subst c4
            have c0 : w4.cell? ⟨r, 0, none⟩ = some (.pointer (some ⟨u, 0, none⟩)) := h.at.cell 0
            go_wp2_with fail
            refine (CN.out _ h).mono ?_
            rintro e w5 ⟨rfl, h3⟩
            replace h : HasQ w0 w5 u r E5 v L X := ⟨h3, h.hq, h.hx⟩
            clear c0 CN h3
            by_cases c5 : e5 = 0
            rotate_left
            · have n5 : (e5 != 0) = true := by simpa using c5
              go_wp2
              go_ret
              have LE := LE.out
              rw [if_neg (by simp), if_neg (by simp), if_neg (by simp), if_neg (by simp)] at LE
              exact .inr (.inl ⟨allCan.2 CAN.out, by rw [LE]; exact c5, by rw [LE]; rfl, by rw [LE]; exact h⟩)
            subst c5
            obtain ⟨i0, hi, hz0, hz1, hz2⟩ := info_parts infoSl
            have b0 : Below w5.heap.size w5 (w5.alloc (.cells #[] 39)) := (Below.refl _ _).alloc (Nat.le_refl _) _
            have own0 := World.ownsRow_made (base := w5.heap.size) (e := 39) (size := 38) w5 #[] 0 (Nat.le_refl _) (Nat.zero_le _) rfl
            have mw := h.below.size
            have cs := Lib.hid (sls_cells (SLS.out _ (h.kept b0).below) rfl)
            have hlen := Lib.hid (slsL_len OKX.out)
            have hn2 := Lib.hid HN1.out
            go_upto_region 25 with fail
            go_upto_region 26 with (first | (at_builtin; refine wpList_append_own _ rfl _ _ 29 rfl w5.heap.size 39 i0 (.agg #[.int .i64 0, .string ⟨#[]⟩, .string ⟨#[]⟩, .int .u8 0, .int .u8 0, .int .u8 0, .int .u8 0, .int .u8 0, .int .u8 0, .int .u8 0, .int .u8 0, .int .u8 0, .int .u8 0, .int .u8 0, .int .u8 0, .int .u8 0, .int .u8 0, .int .u8 0, .int .u8 0, .int .u8 0, .int .u8 0, .int .u8 0, .int .u8 0, .int .u8 0, .int .u8 0, .int .u8 0, .int .u8 0, .int .u8 0, .int .u8 0, .int .u8 0, .int .u8 0, .int .u8 0, .int .u8 0, .int .u8 0, .int .u8 0, .string ⟨#[]⟩, .int .i64 0, .int .i64 0]) 38 104 Tryz.underlying29 hi hz0 hz1 hz2 rfl (by decide) _ _ _ rfl own0 _ _ _ (slsL xs) rfl ?c0 ?c1 (slsL_one xs) ?c3 ?c4 ?c5 ?_))
            case c0 => rw [hlen.out, hn2.out]
            case c1 => exact cs.out
            case c3 => unfold maxLen; omega
            case c4 => omega
            case c5 => simp
            intro v' w6 own4 hgrow _
            have b6 := b0.grown hgrow b0.size fun q hq => (own0.lt q hq).1
            have h6 := h.kept b6
            have own : w6.ownsRow w0.heap.size 39 38 v' k (slsL xs) := by
              have := owns_mono own4 mw
              simpa using this
            clear own4 hgrow own0 b0 b6 mw h cs hlen
            obtain ⟨g9, n9, cap9, rfl⟩ : ∃ g n c, v' = .slice g n c := by
              rcases own.2 with ⟨rfl, _⟩ | ⟨g, cap, cur, rfl, _⟩
              · exact ⟨_, _, _, rfl⟩
              · exact ⟨_, _, _, rfl⟩
            have c1 : w6.cell? ⟨r, 1, none⟩ = some v := h6.at.cell 1
            have f1 := h6.at.frozen 1
            go_upto_region 26 with fail
            clear c1 f1
            have h7 : HasQ w0 (w6.setCell ⟨r, 1, none⟩ (.slice g9 n9 cap9)) u r E5 (.slice g9 n9 cap9) ⟨L.n, L.b, L.s, L.k⟩ X := h6.set (v' := .slice g9 n9 cap9) (L' := ⟨L.n, L.b, L.s, L.k⟩) 1 (.slice g9 n9 cap9) rfl
            replace own := (h6.kset 1 (.slice g9 n9 cap9)).owns own
            clear h6
            generalize w6.setCell ⟨r, 1, none⟩ (.slice g9 n9 cap9) = w7 at h7 own ⊢
            have c2 : w7.cell? ⟨r, 2, none⟩ = some (.int .i64 L.s) := h7.at.cell 2
            have f2 := h7.at.frozen 2
            go_upto_region 27 with fail
            clear c2 f2
            have h8 : HasQ w0 (w7.setCell ⟨r, 2, none⟩ (.int .i64 (k : Int))) u r E5 (.slice g9 n9 cap9) ⟨L.n, L.b, (k : Int), L.k⟩ X := h7.set (v' := .slice g9 n9 cap9) (L' := ⟨L.n, L.b, (k : Int), L.k⟩) 2 (.int .i64 (k : Int)) rfl
            replace own := (h7.kset 2 (.int .i64 (k : Int))).owns own
            clear h7
            generalize w7.setCell ⟨r, 2, none⟩ (.int .i64 (k : Int)) = w8 at h8 own ⊢
            have c3 : w8.cell? ⟨r, 3, none⟩ = some (.int .i64 L.b) := h8.at.cell 3
            have f3 := h8.at.frozen 3
            go_upto_region 28 with fail
            clear c3 f3
            have h9 : HasQ w0 (w8.setCell ⟨r, 3, none⟩ (.int .i64 (T.size : Int))) u r E5 (.slice g9 n9 cap9) ⟨L.n, (T.size : Int), (k : Int), L.k⟩ X := h8.set (v' := .slice g9 n9 cap9) (L' := ⟨L.n, (T.size : Int), (k : Int), L.k⟩) 3 (.int .i64 (T.size : Int)) rfl
            replace own := (h8.kset 3 (.int .i64 (T.size : Int))).owns own
            clear h8
            generalize w8.setCell ⟨r, 3, none⟩ (.int .i64 (T.size : Int)) = w9 at h9 own ⊢
            have c4 : w9.cell? ⟨r, 4, none⟩ = some (.bool L.k) := h9.at.cell 4
            have f4 := h9.at.frozen 4
            have h10 : HasQ w0 (w9.setCell ⟨r, 4, none⟩ (.bool false)) u r E5 (.slice g9 n9 cap9) ⟨(k : Int), (T.size : Int), (k : Int), false⟩ X := h9.set (v' := .slice g9 n9 cap9) (L' := ⟨(k : Int), (T.size : Int), (k : Int), false⟩) 4 (.bool false) rfl
            replace own := (h9.kset 4 (.bool false)).owns own
            clear h9
            go_wp2
            go_ret
            have LE := LE.out
            rw [if_neg (by simp), if_neg (by simp), if_neg (by simp), if_neg (by simp)] at LE
            have hn := HN1.out
            have hz : T.size = (recsB xs).length := by rw [← KTH.out, Pk.kl_len]
            subst hn
            rw [hz] at h10
            exact .inr (.inr ⟨allCan.2 CAN.out, by rw [LE], rfl, _, by rw [LE]; exact h10, own⟩)
      | some fn =>
        by_cases hxs : recsB xs = []
        · as_aux_lemma =>
            rw [disc_some hg1] at hD
            obtain ⟨nn, hnn⟩ := place_at hg1
            have PS := Lib.hid fun z (h : HasQ w0 z u r E v L X) => place_is h.d nS hnn hg1
            have CD := Lib.hid fun z (h : HasQ w0 z u r E v L X) => rh_delete h.d pw (by omega) (s := nS) (by decide)
            rw [kl_nS, hD] at CD
            have n0 : (0 : Int) ≤ (nn : Int) := by omega
            clear hg1 hnn hD
            rw [hxs, fill_no] at hF
            injection hF with hF1 hF2
            subst hF1
            subst hF2
            have CC := Lib.hid fun z (h : HasQ w0 z u r E1 v L X) => rh_create h.d p1 (by omega) (s := nS) (by decide)
            rw [kl_nS, hC] at CC
            have CS := Lib.hid fun z (h : HasQ w0 z u r E2 v L X) => rh_sync h.d p3 (by omega) (s := nS) (by decide)
            rw [kl_nS, hS] at CS
            have CN := Lib.hid fun z (h : HasQ w0 z u r E4 v L X) => rh_rename h.d p4 (by omega) (s := nS) (t := dS) (by decide) (by decide)
            rw [kl_nS, kl_dS, hN] at CN
            have HXS := Lib.hid hxs
            clear hC hS hN p1 p2 p3 p4 o1 o2 o3 o4 hxs
            have KTH := Lib.hid KT
            clear KT
            have c0 : z.cell? ⟨r, 0, none⟩ = some (.pointer (some ⟨u, 0, none⟩)) := h.at.cell 0
            go_wp2_with fail
            refine (PS.out _ h).mono ?_
            rintro e w' ⟨rfl, e'⟩
            replace e' := e'.symm
            subst e'
            clear c0 PS
            have c0 : z.cell? ⟨r, 0, none⟩ = some (.pointer (some ⟨u, 0, none⟩)) := h.at.cell 0
            go_wp2_with fail
            refine (CD.out _ h).mono ?_
            rintro e w1 ⟨rfl, h3⟩
            replace h : HasQ w0 w1 u r E1 v L X := ⟨h3, h.hq, h.hx⟩
            clear c0 CD h3
            by_cases c1 : e1 = 0
            rotate_left
            · have n1 : (e1 != 0) = true := by simpa using c1
              go_wp2
              go_ret
              have LE := LE.out
              rw [if_pos c1] at LE
              exact .inr (.inl ⟨allCan.2 CAN.out, by rw [LE]; exact c1, by rw [LE]; rfl, by rw [LE]; exact h⟩)
            subst c1
            have c0 : w1.cell? ⟨r, 0, none⟩ = some (.pointer (some ⟨u, 0, none⟩)) := h.at.cell 0
            go_wp2_with fail
            refine (CC.out _ h).mono ?_
            rintro e w2 ⟨rfl, h3⟩
            replace h : HasQ w0 w2 u r E2 v L X := ⟨h3, h.hq, h.hx⟩
            clear c0 CC h3
            by_cases c2 : e2 = 0
            rotate_left
            · have n2 : (e2 != 0) = true := by simpa using c2
              go_wp2
              go_ret
              have LE := LE.out
              rw [if_neg (by simp), if_pos c2] at LE
              exact .inr (.inl ⟨allCan.2 CAN.out, by rw [LE]; exact c2, by rw [LE]; rfl, by rw [LE]; exact h⟩)
            subst c2
            have e1 : T.toList.isEmpty = true := isE (by rw [← Pk.kl_len, KTH.out, HXS.out]; rfl)
            have c0 : w2.cell? ⟨r, 0, none⟩ = some (.pointer (some ⟨u, 0, none⟩)) := h.at.cell 0
            go_wp2_with fail
            refine (CS.out _ h).mono ?_
            rintro e w4 ⟨rfl, h3⟩
            replace h : HasQ w0 w4 u r E4 v L X := ⟨h3, h.hq, h.hx⟩
            clear c0 CS h3
            by_cases c4 : e4 = 0
            rotate_left
            · have n4 : (e4 != 0) = true := by simpa using c4
              go_wp2
              go_ret
              have LE := LE.out
              rw [if_neg (by simp), if_neg (by simp), if_neg (by simp), if_pos c4] at LE
              exact .inr (.inl ⟨allCan.2 CAN.out, by rw [LE]; exact c4, by rw [LE]; rfl, by rw [LE]; exact h⟩)
            subst c4
            have c0 : w4.cell? ⟨r, 0, none⟩ = some (.pointer (some ⟨u, 0, none⟩)) := h.at.cell 0
            go_wp2_with fail
            refine (CN.out _ h).mono ?_
            rintro e w5 ⟨rfl, h3⟩
            replace h : HasQ w0 w5 u r E5 v L X := ⟨h3, h.hq, h.hx⟩
            clear c0 CN h3
            by_cases c5 : e5 = 0
            rotate_left
            · have n5 : (e5 != 0) = true := by simpa using c5
              go_wp2
              go_ret
              have LE := LE.out
              rw [if_neg (by simp), if_neg (by simp), if_neg (by simp), if_neg (by simp)] at LE
              exact .inr (.inl ⟨allCan.2 CAN.out, by rw [LE]; exact c5, by rw [LE]; rfl, by rw [LE]; exact h⟩)
            subst c5
            obtain ⟨i0, hi, hz0, hz1, hz2⟩ := info_parts infoSl
            have b0 : Below w5.heap.size w5 (w5.alloc (.cells #[] 39)) := (Below.refl _ _).alloc (Nat.le_refl _) _
            have own0 := World.ownsRow_made (base := w5.heap.size) (e := 39) (size := 38) w5 #[] 0 (Nat.le_refl _) (Nat.zero_le _) rfl
            have mw := h.below.size
            have cs := Lib.hid (sls_cells (SLS.out _ (h.kept b0).below) rfl)
            have hlen := Lib.hid (slsL_len OKX.out)
            have hn2 := Lib.hid HN1.out
            go_upto_region 25 with fail
            go_upto_region 26 with (first | (at_builtin; refine wpList_append_own _ rfl _ _ 29 rfl w5.heap.size 39 i0 (.agg #[.int .i64 0, .string ⟨#[]⟩, .string ⟨#[]⟩, .int .u8 0, .int .u8 0, .int .u8 0, .int .u8 0, .int .u8 0, .int .u8 0, .int .u8 0, .int .u8 0, .int .u8 0, .int .u8 0, .int .u8 0, .int .u8 0, .int .u8 0, .int .u8 0, .int .u8 0, .int .u8 0, .int .u8 0, .int .u8 0, .int .u8 0, .int .u8 0, .int .u8 0, .int .u8 0, .int .u8 0, .int .u8 0, .int .u8 0, .int .u8 0, .int .u8 0, .int .u8 0, .int .u8 0, .int .u8 0, .int .u8 0, .int .u8 0, .string ⟨#[]⟩, .int .i64 0, .int .i64 0]) 38 104 Tryz.underlying29 hi hz0 hz1 hz2 rfl (by decide) _ _ _ rfl own0 _ _ _ (slsL xs) rfl ?c0 ?c1 (slsL_one xs) ?c3 ?c4 ?c5 ?_))
            case c0 => rw [hlen.out, hn2.out]
            case c1 => exact cs.out
            case c3 => unfold maxLen; omega
            case c4 => omega
            case c5 => simp
            intro v' w6 own4 hgrow _
            have b6 := b0.grown hgrow b0.size fun q hq => (own0.lt q hq).1
            have h6 := h.kept b6
            have own : w6.ownsRow w0.heap.size 39 38 v' k (slsL xs) := by
              have := owns_mono own4 mw
              simpa using this
            clear own4 hgrow own0 b0 b6 mw h cs hlen
            obtain ⟨g9, n9, cap9, rfl⟩ : ∃ g n c, v' = .slice g n c := by
              rcases own.2 with ⟨rfl, _⟩ | ⟨g, cap, cur, rfl, _⟩
              · exact ⟨_, _, _, rfl⟩
              · exact ⟨_, _, _, rfl⟩
            have c1 : w6.cell? ⟨r, 1, none⟩ = some v := h6.at.cell 1
            have f1 := h6.at.frozen 1
            go_upto_region 26 with fail
            clear c1 f1
            have h7 : HasQ w0 (w6.setCell ⟨r, 1, none⟩ (.slice g9 n9 cap9)) u r E5 (.slice g9 n9 cap9) ⟨L.n, L.b, L.s, L.k⟩ X := h6.set (v' := .slice g9 n9 cap9) (L' := ⟨L.n, L.b, L.s, L.k⟩) 1 (.slice g9 n9 cap9) rfl
            replace own := (h6.kset 1 (.slice g9 n9 cap9)).owns own
            clear h6
            generalize w6.setCell ⟨r, 1, none⟩ (.slice g9 n9 cap9) = w7 at h7 own ⊢
            have c2 : w7.cell? ⟨r, 2, none⟩ = some (.int .i64 L.s) := h7.at.cell 2
            have f2 := h7.at.frozen 2
            go_upto_region 27 with fail
            clear c2 f2
            have h8 : HasQ w0 (w7.setCell ⟨r, 2, none⟩ (.int .i64 (k : Int))) u r E5 (.slice g9 n9 cap9) ⟨L.n, L.b, (k : Int), L.k⟩ X := h7.set (v' := .slice g9 n9 cap9) (L' := ⟨L.n, L.b, (k : Int), L.k⟩) 2 (.int .i64 (k : Int)) rfl
            replace own := (h7.kset 2 (.int .i64 (k : Int))).owns own
            clear h7
            generalize w7.setCell ⟨r, 2, none⟩ (.int .i64 (k : Int)) = w8 at h8 own ⊢
            have c3 : w8.cell? ⟨r, 3, none⟩ = some (.int .i64 L.b) := h8.at.cell 3
            have f3 := h8.at.frozen 3
            go_upto_region 28 with fail
            clear c3 f3
            have h9 : HasQ w0 (w8.setCell ⟨r, 3, none⟩ (.int .i64 (T.size : Int))) u r E5 (.slice g9 n9 cap9) ⟨L.n, (T.size : Int), (k : Int), L.k⟩ X := h8.set (v' := .slice g9 n9 cap9) (L' := ⟨L.n, (T.size : Int), (k : Int), L.k⟩) 3 (.int .i64 (T.size : Int)) rfl
            replace own := (h8.kset 3 (.int .i64 (T.size : Int))).owns own
            clear h8
            generalize w8.setCell ⟨r, 3, none⟩ (.int .i64 (T.size : Int)) = w9 at h9 own ⊢
            have c4 : w9.cell? ⟨r, 4, none⟩ = some (.bool L.k) := h9.at.cell 4
            have f4 := h9.at.frozen 4
            have h10 : HasQ w0 (w9.setCell ⟨r, 4, none⟩ (.bool false)) u r E5 (.slice g9 n9 cap9) ⟨(k : Int), (T.size : Int), (k : Int), false⟩ X := h9.set (v' := .slice g9 n9 cap9) (L' := ⟨(k : Int), (T.size : Int), (k : Int), false⟩) 4 (.bool false) rfl
            replace own := (h9.kset 4 (.bool false)).owns own
            clear h9
            go_wp2
            go_ret
            have LE := LE.out
            rw [if_neg (by simp), if_neg (by simp), if_neg (by simp), if_neg (by simp)] at LE
            have hn := HN1.out
            have hz : T.size = (recsB xs).length := by rw [← KTH.out, Pk.kl_len]
            subst hn
            rw [hz] at h10
            exact .inr (.inr ⟨allCan.2 CAN.out, by rw [LE], rfl, _, by rw [LE]; exact h10, own⟩)
        · as_aux_lemma =>
            rw [disc_some hg1] at hD
            obtain ⟨nn, hnn⟩ := place_at hg1
            have PS := Lib.hid fun z (h : HasQ w0 z u r E v L X) => place_is h.d nS hnn hg1
            have CD := Lib.hid fun z (h : HasQ w0 z u r E v L X) => rh_delete h.d pw (by omega) (s := nS) (by decide)
            rw [kl_nS, hD] at CD
            have n0 : (0 : Int) ≤ (nn : Int) := by omega
            clear hg1 hnn hD
            rw [fill_yes hxs] at hF
            have CF := Lib.hid fun z (h : HasQ w0 z u r E2 v L X) => rh_append h.d p2 (by omega) (s := nS) (t := T) (by decide) (by omega)
            rw [kl_nS, KT, hF] at CF
            clear hF
            have CC := Lib.hid fun z (h : HasQ w0 z u r E1 v L X) => rh_create h.d p1 (by omega) (s := nS) (by decide)
            rw [kl_nS, hC] at CC
            have CS := Lib.hid fun z (h : HasQ w0 z u r E3 v L X) => rh_sync h.d p3 (by omega) (s := nS) (by decide)
            rw [kl_nS, hS] at CS
            have CN := Lib.hid fun z (h : HasQ w0 z u r E4 v L X) => rh_rename h.d p4 (by omega) (s := nS) (t := dS) (by decide) (by decide)
            rw [kl_nS, kl_dS, hN] at CN
            have HXS := Lib.hid hxs
            clear hC hS hN p1 p2 p3 p4 o1 o2 o3 o4 hxs
            have KTH := Lib.hid KT
            clear KT
            have c0 : z.cell? ⟨r, 0, none⟩ = some (.pointer (some ⟨u, 0, none⟩)) := h.at.cell 0
            go_wp2_with fail
            refine (PS.out _ h).mono ?_
            rintro e w' ⟨rfl, e'⟩
            replace e' := e'.symm
            subst e'
            clear c0 PS
            have c0 : z.cell? ⟨r, 0, none⟩ = some (.pointer (some ⟨u, 0, none⟩)) := h.at.cell 0
            go_wp2_with fail
            refine (CD.out _ h).mono ?_
            rintro e w1 ⟨rfl, h3⟩
            replace h : HasQ w0 w1 u r E1 v L X := ⟨h3, h.hq, h.hx⟩
            clear c0 CD h3
            by_cases c1 : e1 = 0
            rotate_left
            · have n1 : (e1 != 0) = true := by simpa using c1
              go_wp2
              go_ret
              have LE := LE.out
              rw [if_pos c1] at LE
              exact .inr (.inl ⟨allCan.2 CAN.out, by rw [LE]; exact c1, by rw [LE]; rfl, by rw [LE]; exact h⟩)
            subst c1
            have c0 : w1.cell? ⟨r, 0, none⟩ = some (.pointer (some ⟨u, 0, none⟩)) := h.at.cell 0
            go_wp2_with fail
            refine (CC.out _ h).mono ?_
            rintro e w2 ⟨rfl, h3⟩
            replace h : HasQ w0 w2 u r E2 v L X := ⟨h3, h.hq, h.hx⟩
            clear c0 CC h3
            by_cases c2 : e2 = 0
            rotate_left
            · have n2 : (e2 != 0) = true := by simpa using c2
              go_wp2
              go_ret
              have LE := LE.out
              rw [if_neg (by simp), if_pos c2] at LE
              exact .inr (.inl ⟨allCan.2 CAN.out, by rw [LE]; exact c2, by rw [LE]; rfl, by rw [LE]; exact h⟩)
            subst c2
            have e1 : T.toList.isEmpty = false := notE (by rw [← Pk.kl_len, KTH.out]; exact fun c => HXS.out (List.eq_nil_of_length_eq_zero c))
            have c0 : w2.cell? ⟨r, 0, none⟩ = some (.pointer (some ⟨u, 0, none⟩)) := h.at.cell 0
            go_wp2_with fail
            refine (CF.out _ h).mono ?_
            rintro e w3 ⟨rfl, h3⟩
            replace h : HasQ w0 w3 u r E3 v L X := ⟨h3, h.hq, h.hx⟩
            clear c0 CF h3
            by_cases c3 : e3 = 0
            rotate_left
            · have n3 : (e3 != 0) = true := by simpa using c3
              go_wp2
              go_ret
              have LE := LE.out
              rw [if_neg (by simp), if_neg (by simp), if_pos c3] at LE
              exact .inr (.inl ⟨allCan.2 CAN.out, by rw [LE]; exact c3, by rw [LE]; rfl, by rw [LE]; exact h⟩)
            subst c3
            have c0 : w3.cell? ⟨r, 0, none⟩ = some (.pointer (some ⟨u, 0, none⟩)) := h.at.cell 0
            go_wp2_with fail
            refine (CS.out _ h).mono ?_
            rintro e w4 ⟨rfl, h3⟩
            replace h : HasQ w0 w4 u r E4 v L X := ⟨h3, h.hq, h.hx⟩
            clear c0 CS h3
            by_cases c4 : e4 = 0
            rotate_left
            · have n4 : (e4 != 0) = true := by simpa using c4
              go_wp2
              go_ret
              have LE := LE.out
              rw [if_neg (by simp), if_neg (by simp), if_neg (by simp), if_pos c4] at LE
              exact .inr (.inl ⟨allCan.2 CAN.out, by rw [LE]; exact c4, by rw [LE]; rfl, by rw [LE]; exact h⟩)
            subst c4
            have c0 : w4.cell? ⟨r, 0, none⟩ = some (.pointer (some ⟨u, 0, none⟩)) := h.at.cell 0
            go_wp2_with fail
            refine (CN.out _ h).mono ?_
            rintro e w5 ⟨rfl, h3⟩
            replace h : HasQ w0 w5 u r E5 v L X := ⟨h3, h.hq, h.hx⟩
            clear c0 CN h3
            by_cases c5 : e5 = 0
            rotate_left
            · have n5 : (e5 != 0) = true := by simpa using c5
              go_wp2
              go_ret
              have LE := LE.out
              rw [if_neg (by simp), if_neg (by simp), if_neg (by simp), if_neg (by simp)] at LE
              exact .inr (.inl ⟨allCan.2 CAN.out, by rw [LE]; exact c5, by rw [LE]; rfl, by rw [LE]; exact h⟩)
            subst c5
            obtain ⟨i0, hi, hz0, hz1, hz2⟩ := info_parts infoSl
            have b0 : Below w5.heap.size w5 (w5.alloc (.cells #[] 39)) := (Below.refl _ _).alloc (Nat.le_refl _) _
            have own0 := World.ownsRow_made (base := w5.heap.size) (e := 39) (size := 38) w5 #[] 0 (Nat.le_refl _) (Nat.zero_le _) rfl
            have mw := h.below.size
            have cs := Lib.hid (sls_cells (SLS.out _ (h.kept b0).below) rfl)
            have hlen := Lib.hid (slsL_len OKX.out)
            have hn2 := Lib.hid HN1.out
            go_upto_region 25 with fail
            go_upto_region 26 with (first | (at_builtin; refine wpList_append_own _ rfl _ _ 29 rfl w5.heap.size 39 i0 (.agg #[.int .i64 0, .string ⟨#[]⟩, .string ⟨#[]⟩, .int .u8 0, .int .u8 0, .int .u8 0, .int .u8 0, .int .u8 0, .int .u8 0, .int .u8 0, .int .u8 0, .int .u8 0, .int .u8 0, .int .u8 0, .int .u8 0, .int .u8 0, .int .u8 0, .int .u8 0, .int .u8 0, .int .u8 0, .int .u8 0, .int .u8 0, .int .u8 0, .int .u8 0, .int .u8 0, .int .u8 0, .int .u8 0, .int .u8 0, .int .u8 0, .int .u8 0, .int .u8 0, .int .u8 0, .int .u8 0, .int .u8 0, .int .u8 0, .string ⟨#[]⟩, .int .i64 0, .int .i64 0]) 38 104 Tryz.underlying29 hi hz0 hz1 hz2 rfl (by decide) _ _ _ rfl own0 _ _ _ (slsL xs) rfl ?c0 ?c1 (slsL_one xs) ?c3 ?c4 ?c5 ?_))
            case c0 => rw [hlen.out, hn2.out]
            case c1 => exact cs.out
            case c3 => unfold maxLen; omega
            case c4 => omega
            case c5 => simp
            intro v' w6 own4 hgrow _
            have b6 := b0.grown hgrow b0.size fun q hq => (own0.lt q hq).1
            have h6 := h.kept b6
            have own : w6.ownsRow w0.heap.size 39 38 v' k (slsL xs) := by
              have := owns_mono own4 mw
              simpa using this
            clear own4 hgrow own0 b0 b6 mw h cs hlen
            obtain ⟨g9, n9, cap9, rfl⟩ : ∃ g n c, v' = .slice g n c := by
              rcases own.2 with ⟨rfl, _⟩ | ⟨g, cap, cur, rfl, _⟩
              · exact ⟨_, _, _, rfl⟩
              · exact ⟨_, _, _, rfl⟩
            have c1 : w6.cell? ⟨r, 1, none⟩ = some v := h6.at.cell 1
            have f1 := h6.at.frozen 1
            go_upto_region 26 with fail
            clear c1 f1
            have h7 : HasQ w0 (w6.setCell ⟨r, 1, none⟩ (.slice g9 n9 cap9)) u r E5 (.slice g9 n9 cap9) ⟨L.n, L.b, L.s, L.k⟩ X := h6.set (v' := .slice g9 n9 cap9) (L' := ⟨L.n, L.b, L.s, L.k⟩) 1 (.slice g9 n9 cap9) rfl
            replace own := (h6.kset 1 (.slice g9 n9 cap9)).owns own
            clear h6
            generalize w6.setCell ⟨r, 1, none⟩ (.slice g9 n9 cap9) = w7 at h7 own ⊢
            have c2 : w7.cell? ⟨r, 2, none⟩ = some (.int .i64 L.s) := h7.at.cell 2
            have f2 := h7.at.frozen 2
            go_upto_region 27 with fail
            clear c2 f2
            have h8 : HasQ w0 (w7.setCell ⟨r, 2, none⟩ (.int .i64 (k : Int))) u r E5 (.slice g9 n9 cap9) ⟨L.n, L.b, (k : Int), L.k⟩ X := h7.set (v' := .slice g9 n9 cap9) (L' := ⟨L.n, L.b, (k : Int), L.k⟩) 2 (.int .i64 (k : Int)) rfl
            replace own := (h7.kset 2 (.int .i64 (k : Int))).owns own
            clear h7
            generalize w7.setCell ⟨r, 2, none⟩ (.int .i64 (k : Int)) = w8 at h8 own ⊢
            have c3 : w8.cell? ⟨r, 3, none⟩ = some (.int .i64 L.b) := h8.at.cell 3
            have f3 := h8.at.frozen 3
            go_upto_region 28 with fail
            clear c3 f3
            have h9 : HasQ w0 (w8.setCell ⟨r, 3, none⟩ (.int .i64 (T.size : Int))) u r E5 (.slice g9 n9 cap9) ⟨L.n, (T.size : Int), (k : Int), L.k⟩ X := h8.set (v' := .slice g9 n9 cap9) (L' := ⟨L.n, (T.size : Int), (k : Int), L.k⟩) 3 (.int .i64 (T.size : Int)) rfl
            replace own := (h8.kset 3 (.int .i64 (T.size : Int))).owns own
            clear h8
            generalize w8.setCell ⟨r, 3, none⟩ (.int .i64 (T.size : Int)) = w9 at h9 own ⊢
            have c4 : w9.cell? ⟨r, 4, none⟩ = some (.bool L.k) := h9.at.cell 4
            have f4 := h9.at.frozen 4
            have h10 : HasQ w0 (w9.setCell ⟨r, 4, none⟩ (.bool false)) u r E5 (.slice g9 n9 cap9) ⟨(k : Int), (T.size : Int), (k : Int), false⟩ X := h9.set (v' := .slice g9 n9 cap9) (L' := ⟨(k : Int), (T.size : Int), (k : Int), false⟩) 4 (.bool false) rfl
            replace own := (h9.kset 4 (.bool false)).owns own
            clear h9
            go_wp2
            go_ret
            have LE := LE.out
            rw [if_neg (by simp), if_neg (by simp), if_neg (by simp), if_neg (by simp)] at LE
            have hn := HN1.out
            have hz : T.size = (recsB xs).length := by rw [← KTH.out, Pk.kl_len]
            subst hn
            rw [hz] at h10
            exact .inr (.inr ⟨allCan.2 CAN.out, by rw [LE], rfl, _, by rw [LE]; exact h10, own⟩)
theorem rrew_any (h : HasQ w0 w u r E v L X) (pw : E.Pw) (ho : E.ops + 5 ≤ 1099511627776) {zs : List Sp} (row : RowS w0 w v L zs) {b : Option Addr} {c : Nat} {ys : List Sp} (hv : SlsAt w0 (.slice b ys.length c) ys) (hnil : b = none → c = 0) (hl : ys.length ≤ 100000) :
    Calls Tryz.prog 26 #[.pointer (some ⟨r, 0, none⟩), .slice b ys.length c] w fun e w' => e = .returned (.int .i64 (rewL E L ys).1) ∧ ∃ v' xs', HasQ w0 w' u r (rewL E L ys).2.1 v' (rewL E L ys).2.2 X ∧ RowS w0 w' v' (rewL E L ys).2.2 xs' := by
  have C : Calls Tryz.prog 26 #[.pointer (some ⟨r, 0, none⟩), .slice b ys.length c] w fun e w' => RRewRaw w0 u r E v L ys (slipX w ++ X) e w' := by
    cases b with
    | none =>
      have hys : ys = [] := by
        cases hx : ys with
        | nil => rfl
        | cons y t =>
          obtain ⟨base, cap, e, _, hc⟩ := hv.is
          injection e with e1 e2 e3
          subst e1
          obtain ⟨a, ea, _⟩ := hc 0 y (by rw [hx]; rfl)
          cases ea
      subst hys
      obtain rfl := hnil rfl
      exact rrew_none h.slips pw ho
    | some a1 => exact rrew_some h.slips pw ho hv hl
  refine C.mono ?_
  rintro e w' (⟨a, rfl, h'⟩ | ⟨a, c, rfl, h'⟩ | ⟨a, c, rfl, v', h', own⟩)
  · rw [rewL_no a]
    exact ⟨rfl, v, zs, h'.less fun x hx => List.mem_append_right _ hx, row.kp (rkp_of h'.disk)⟩
  · rw [rewL_fail a c]
    exact ⟨rfl, v, zs, h'.less fun x hx => List.mem_append_right _ hx, row.kp (rkp_of h'.disk)⟩
  · rw [rewL_ok a c]
    exact ⟨rfl, v', ys, h'.less fun x hx => List.mem_append_right _ hx, own, hv.ok, rfl⟩
end
end Go.Proofs.YtdmgobffhpgjlaaGreat.Sl.Dg
