/-
  The document's Lay.
-/
import Derived.Test.YtkhlcmponfkccaaPkRef8
namespace Go.Proofs.Ytkhlcmponfkccaa.Pk
open Go.RowKit Go.PlainAid Go.Maps
set_option linter.unusedVariables false
set_option linter.unusedSimpArgs false

theorem lay_ok {r : Dk} (okr : r.Ok) {nm b : Bs} (hn : isName nm = true) (hu : (usedF (delF nm r.L) : Int) + (b.length : Int) ≤ r.room) (hc : (delF nm r.L).length < 200) : { r with L := insF ⟨nm, b, b.length⟩ (delF nm r.L) }.Ok :=
  (okr.del nm).ins (D := { r with L := delF nm r.L }) (f := ⟨nm, b, b.length⟩) hn (Nat.le_refl _) (fun x hx => (mem_del.1 hx).2) hu hc
section
variable {w w' : World} {u : Nat} {v : Value} {a mo : Int} {D : Dk}
set_option maxRecDepth 100000 in
set_option maxHeartbeats 4000000 in
theorem rlay_any (h : RefAt w u v a mo D) {s t : ByteArray} (hs : s.size ≤ 9223372036854775807) (ht : t.size ≤ 1099511627) :
    Calls Try.prog 32 #[.pointer (some ⟨u, 0, none⟩), .string s, .string t] w fun e w' => e = .returned (.int .i64 (D.lay (kl s) (kl t)).1) ∧ RPost w w' u v (D.lay (kl s) (kl t)).2 := by
  have PHH := Lib.hid (show RPost w w u v D from ⟨v, a, mo, h, Goes.refl _ _⟩)
  have ni := isName_iff s
  by_cases b0 : s.size < 1
  · rw [lay_b (by cases hx : isName (kl s)
                  · rfl
                  · have := ni.1 hx; omega)]
    have c0 : (s.size : Int) < 1 := by omega
    clear ni h
    go_enter Try.func32, Try.ntmps32
    go_wp2
    go_ret
    exact ⟨rfl, PHH.out⟩
  have c0 : ¬ (s.size : Int) < 1 := by omega
  by_cases b1 : 80 < s.size
  · rw [lay_b (by cases hx : isName (kl s)
                  · rfl
                  · have := ni.1 hx; omega)]
    have c1 : (80 : Int) < (s.size : Int) := by omega
    clear ni h
    go_enter Try.func32, Try.ntmps32
    go_wp2
    go_ret
    exact ⟨rfl, PHH.out⟩
  have c1 : ¬ (80 : Int) < (s.size : Int) := by omega
  have gs : isName (kl s) = true := ni.2 (by omega)
  have hkt := kl_len t
  have PL := place_any h s
  clear ni PHH
  cases hg : getF (kl s) D.L with
  | none =>
    by_cases hf : 200 ≤ D.L.length
    · rw [lay_nf gs hg (.inl hf)]
      have hf2 : (200 : Int) ≤ (D.L.length : Int) := by omega
      go_enter Try.func32, Try.ntmps32
      go_wp2_with fail
      refine PL.mono ?_
      rintro e w' ⟨i, rfl, PI, rfl⟩
      clear PL
      rcases PI with ⟨rfl, e⟩ | ⟨n, f', rfl, p1, p2, p3⟩
      case inr => rw [hg] at p3; cases p3
      obtain ⟨o, cap, ev, _⟩ := h.form
      subst ev
      have US := Lib.hid fun x (h : RefAt x u (.slice o D.L.length cap) a mo D) => rused_any h
      have RM : ∀ x, RefAt x u (.slice o D.L.length cap) a mo D → x.cell? ⟨u, 1, none⟩ = some (.int .i64 D.room) ∧ x.cell? ⟨u, 0, none⟩ = some (.slice o D.L.length cap) := fun x h => by
        have c := h.cell 1
        have d := h.cell 0
        exact ⟨by simpa [refV] using c, by simpa [refV] using d⟩
      have RMH := Lib.hid RM
      have ro0 := h.ok.room0
      have ro1 := h.ok.room1
      have uu := h.ok.used
      have q1 : IntKind.i64.wrap (D.room - (usedF D.L : Int)) = D.room - (usedF D.L : Int) := IntWalk.i64_in _ (by omega)
      clear RM
      go_upto_region 7 with (fail)
      refine wp_region_held (S := fun x => RefAt x u (.slice o D.L.length cap) a mo D ∧ Goes w x (rzone u (.slice o D.L.length cap)) (rzone u (.slice o D.L.length cap))) (by kernel_rfl) ?_
      change wpAnyH _ _ _ _ _ _ _ _ w.drew
      have j0 : RefAt w.drew u (.slice o D.L.length cap) a mo D ∧ Goes w w.drew (rzone u (.slice o D.L.length cap)) (rzone u (.slice o D.L.length cap)) := ⟨h.drewN 1, Goes.drewN w 1 _⟩
      clear h
      generalize w.drew = wd at j0 ⊢
      refine held_take 0 (.int .i64 (-1)) rfl (by kernel_rfl) (by kernel_rfl) (by kernel_rfl) (fun _ _ _ h => h) (Or.inl ⟨by rfl, fun x j => by go_simp⟩) j0 (fun K hK => ?_)
      go_simp
      refine hK _ _ ?_
      clear hK K
      refine held_take 1 (.bool true) rfl (by kernel_rfl) (by kernel_rfl) (by kernel_rfl) (fun _ _ _ h => h) (Or.inl ⟨by rfl, fun x j => by go_simp⟩) j0 (fun K hK => ?_)
      go_simp
      refine hK _ _ ?_
      clear hK K
      refine held_take 2 (.bool true) rfl (by kernel_rfl) (by kernel_rfl) (by kernel_rfl) (fun _ _ _ h => h) (Or.inl ⟨by rfl, fun x j => by go_simp⟩) j0 (fun K hK => ?_)
      go_simp
      refine hK _ _ ?_
      clear hK K
      refine held_take 3 (.pointer (some ⟨u, 0, none⟩)) rfl (by kernel_rfl) (by kernel_rfl) (by kernel_rfl) (fun _ _ _ h => h) (Or.inl ⟨by rfl, fun x j => by go_simp⟩) j0 (fun K hK => ?_)
      go_simp
      refine hK _ _ ?_
      clear hK K
      refine held_take 4 (.pointer (some ⟨u, 0, none⟩)) rfl (by kernel_rfl) (by kernel_rfl) (by kernel_rfl) (fun _ _ _ h => h) (Or.inl ⟨by rfl, fun x j => by go_simp⟩) j0 (fun K hK => ?_)
      go_simp
      refine hK _ _ ?_
      clear hK K
      refine held_take 5 (.pointer (some ⟨u, 0, none⟩)) rfl (by kernel_rfl) (by kernel_rfl) (by kernel_rfl) (fun _ _ _ h => h) (Or.inl ⟨by rfl, fun x j => by go_simp⟩) j0 (fun K hK => ?_)
      go_simp
      refine hK _ _ ?_
      clear hK K
      refine held_take 6 ((.slice o D.L.length cap)) rfl (by kernel_rfl) (by kernel_rfl) (by kernel_rfl) (fun _ _ _ h => h) (Or.inl ⟨by rfl, fun x j => by have c0 := (RMH.out x j.1).2; go_simp⟩) j0 (fun K hK => ?_)
      go_simp
      refine hK _ _ ?_
      clear hK K
      refine held_take 7 (.int .i64 (D.L.length : Int)) rfl (by kernel_rfl) (by kernel_rfl) (by kernel_rfl) (fun _ _ _ h => h) (Or.inl ⟨by rfl, fun x j => by go_simp⟩) j0 (fun K hK => ?_)
      go_simp
      refine hK _ _ ?_
      clear hK K
      refine held_take 8 (.bool true) rfl (by kernel_rfl) (by kernel_rfl) (by kernel_rfl) (fun _ _ _ h => h) (Or.inl ⟨by rfl, fun x j => by go_simp⟩) j0 (fun K hK => ?_)
      go_simp
      refine hK _ _ ?_
      clear hK K
      refine held_take 9 (.bool true) rfl (by kernel_rfl) (by kernel_rfl) (by kernel_rfl) (fun _ _ _ h => h) (Or.inl ⟨by rfl, fun x j => by go_simp⟩) j0 (fun K hK => ?_)
      go_simp
      refine hK _ _ ?_
      clear hK K
      refine held_take 10 (.bool true) rfl (by kernel_rfl) (by kernel_rfl) (by kernel_rfl) (fun _ _ _ h => h) (Or.inl ⟨by rfl, fun x j => by go_simp⟩) j0 (fun K hK => ?_)
      go_simp
      refine hK _ _ ?_
      clear hK K
      refine held_take 11 (undef) rfl (by kernel_rfl) (by kernel_rfl) (by kernel_rfl) (fun _ _ _ h => h) (Or.inr ⟨by rfl, rfl⟩) j0 (fun K hK => ?_)
      go_simp
      refine hK _ _ ?_
      clear hK K
      refine held_take 12 (undef) rfl (by kernel_rfl) (by kernel_rfl) (by kernel_rfl) (fun _ _ _ h => h) (Or.inr ⟨by rfl, rfl⟩) j0 (fun K hK => ?_)
      go_simp
      refine hK _ _ ?_
      clear hK K
      refine held_take 13 (undef) rfl (by kernel_rfl) (by kernel_rfl) (by kernel_rfl) (fun _ _ _ h => h) (Or.inr ⟨by rfl, rfl⟩) j0 (fun K hK => ?_)
      go_simp
      refine hK _ _ ?_
      clear hK K
      refine held_take 14 (undef) rfl (by kernel_rfl) (by kernel_rfl) (by kernel_rfl) (fun _ _ _ h => h) (Or.inr ⟨by rfl, rfl⟩) j0 (fun K hK => ?_)
      go_simp
      refine hK _ _ ?_
      clear hK K
      refine held_take 15 (undef) rfl (by kernel_rfl) (by kernel_rfl) (by kernel_rfl) (fun _ _ _ h => h) (Or.inr ⟨by rfl, rfl⟩) j0 (fun K hK => ?_)
      go_simp
      refine hK _ _ ?_
      clear hK K
      refine held_take 16 (undef) rfl (by kernel_rfl) (by kernel_rfl) (by kernel_rfl) (fun _ _ _ h => h) (Or.inr ⟨by rfl, rfl⟩) j0 (fun K hK => ?_)
      go_simp
      refine hK _ _ ?_
      clear hK K
      refine held_take 17 (undef) rfl (by kernel_rfl) (by kernel_rfl) (by kernel_rfl) (fun _ _ _ h => h) (Or.inr ⟨by rfl, rfl⟩) j0 (fun K hK => ?_)
      go_simp
      refine hK _ _ ?_
      clear hK K
      refine held_take 18 (undef) rfl (by kernel_rfl) (by kernel_rfl) (by kernel_rfl) (fun _ _ _ h => h) (Or.inr ⟨by rfl, rfl⟩) j0 (fun K hK => ?_)
      go_simp
      refine hK _ _ ?_
      clear hK K
      refine held_take 19 (undef) rfl (by kernel_rfl) (by kernel_rfl) (by kernel_rfl) (fun _ _ _ h => h) (Or.inr ⟨by rfl, rfl⟩) j0 (fun K hK => ?_)
      go_simp
      refine hK _ _ ?_
      clear hK K
      refine held_take 20 (undef) rfl (by kernel_rfl) (by kernel_rfl) (by kernel_rfl) (fun _ _ _ h => h) (Or.inr ⟨by rfl, rfl⟩) j0 (fun K hK => ?_)
      go_simp
      refine hK _ _ ?_
      clear hK K
      refine held_take 21 (undef) rfl (by kernel_rfl) (by kernel_rfl) (by kernel_rfl) (fun _ _ _ h => h) (Or.inr ⟨by rfl, rfl⟩) j0 (fun K hK => ?_)
      go_simp
      refine hK _ _ ?_
      clear hK K
      refine held_take 22 (undef) rfl (by kernel_rfl) (by kernel_rfl) (by kernel_rfl) (fun _ _ _ h => h) (Or.inr ⟨by rfl, rfl⟩) j0 (fun K hK => ?_)
      go_simp
      refine hK _ _ ?_
      clear hK K
      refine held_take 23 (.bool true) rfl (by kernel_rfl) (by kernel_rfl) (by kernel_rfl) (fun _ _ _ h => h) (Or.inl ⟨by rfl, fun x j => by go_simp⟩) j0 (fun K hK => ?_)
      go_simp
      refine hK _ _ ?_
      clear hK K
      refine wpAnyH_done (by kernel_rfl) ?_ _
      have PHH := Lib.hid (show RPost w wd u _ D from ⟨_, a, mo, j0.1, j0.2⟩)
      clear j0
      go_wp2
      go_ret
      exact ⟨rfl, PHH.out⟩
    have hf2 : ¬ (200 : Int) ≤ (D.L.length : Int) := by omega
    by_cases hc : D.room < (usedF D.L : Int) + ((kl t).length : Int)
    · rw [lay_nf gs hg (.inr hc)]
      have hc2 : D.room - (usedF D.L : Int) < (t.size : Int) := by omega
      go_enter Try.func32, Try.ntmps32
      go_wp2_with fail
      refine PL.mono ?_
      rintro e w' ⟨i, rfl, PI, rfl⟩
      clear PL
      rcases PI with ⟨rfl, e⟩ | ⟨n, f', rfl, p1, p2, p3⟩
      case inr => rw [hg] at p3; cases p3
      obtain ⟨o, cap, ev, _⟩ := h.form
      subst ev
      have US := Lib.hid fun x (h : RefAt x u (.slice o D.L.length cap) a mo D) => rused_any h
      have RM : ∀ x, RefAt x u (.slice o D.L.length cap) a mo D → x.cell? ⟨u, 1, none⟩ = some (.int .i64 D.room) ∧ x.cell? ⟨u, 0, none⟩ = some (.slice o D.L.length cap) := fun x h => by
        have c := h.cell 1
        have d := h.cell 0
        exact ⟨by simpa [refV] using c, by simpa [refV] using d⟩
      have RMH := Lib.hid RM
      have ro0 := h.ok.room0
      have ro1 := h.ok.room1
      have uu := h.ok.used
      have q1 : IntKind.i64.wrap (D.room - (usedF D.L : Int)) = D.room - (usedF D.L : Int) := IntWalk.i64_in _ (by omega)
      clear RM
      go_upto_region 7 with (fail)
      refine wp_region_held (S := fun x => RefAt x u (.slice o D.L.length cap) a mo D ∧ Goes w x (rzone u (.slice o D.L.length cap)) (rzone u (.slice o D.L.length cap))) (by kernel_rfl) ?_
      change wpAnyH _ _ _ _ _ _ _ _ w.drew
      have j0 : RefAt w.drew u (.slice o D.L.length cap) a mo D ∧ Goes w w.drew (rzone u (.slice o D.L.length cap)) (rzone u (.slice o D.L.length cap)) := ⟨h.drewN 1, Goes.drewN w 1 _⟩
      clear h
      generalize w.drew = wd at j0 ⊢
      refine held_take 0 (.int .i64 (-1)) rfl (by kernel_rfl) (by kernel_rfl) (by kernel_rfl) (fun _ _ _ h => h) (Or.inl ⟨by rfl, fun x j => by go_simp⟩) j0 (fun K hK => ?_)
      go_simp
      refine hK _ _ ?_
      clear hK K
      refine held_take 1 (.bool true) rfl (by kernel_rfl) (by kernel_rfl) (by kernel_rfl) (fun _ _ _ h => h) (Or.inl ⟨by rfl, fun x j => by go_simp⟩) j0 (fun K hK => ?_)
      go_simp
      refine hK _ _ ?_
      clear hK K
      refine held_take 2 (.bool true) rfl (by kernel_rfl) (by kernel_rfl) (by kernel_rfl) (fun _ _ _ h => h) (Or.inl ⟨by rfl, fun x j => by go_simp⟩) j0 (fun K hK => ?_)
      go_simp
      refine hK _ _ ?_
      clear hK K
      refine held_take 3 (.pointer (some ⟨u, 0, none⟩)) rfl (by kernel_rfl) (by kernel_rfl) (by kernel_rfl) (fun _ _ _ h => h) (Or.inl ⟨by rfl, fun x j => by go_simp⟩) j0 (fun K hK => ?_)
      go_simp
      refine hK _ _ ?_
      clear hK K
      refine held_take 4 (.pointer (some ⟨u, 0, none⟩)) rfl (by kernel_rfl) (by kernel_rfl) (by kernel_rfl) (fun _ _ _ h => h) (Or.inl ⟨by rfl, fun x j => by go_simp⟩) j0 (fun K hK => ?_)
      go_simp
      refine hK _ _ ?_
      clear hK K
      refine held_take 5 (.pointer (some ⟨u, 0, none⟩)) rfl (by kernel_rfl) (by kernel_rfl) (by kernel_rfl) (fun _ _ _ h => h) (Or.inl ⟨by rfl, fun x j => by go_simp⟩) j0 (fun K hK => ?_)
      go_simp
      refine hK _ _ ?_
      clear hK K
      refine held_take 6 ((.slice o D.L.length cap)) rfl (by kernel_rfl) (by kernel_rfl) (by kernel_rfl) (fun _ _ _ h => h) (Or.inl ⟨by rfl, fun x j => by have c0 := (RMH.out x j.1).2; go_simp⟩) j0 (fun K hK => ?_)
      go_simp
      refine hK _ _ ?_
      clear hK K
      refine held_take 7 (.int .i64 (D.L.length : Int)) rfl (by kernel_rfl) (by kernel_rfl) (by kernel_rfl) (fun _ _ _ h => h) (Or.inl ⟨by rfl, fun x j => by go_simp⟩) j0 (fun K hK => ?_)
      go_simp
      refine hK _ _ ?_
      clear hK K
      refine held_take 8 (.bool false) rfl (by kernel_rfl) (by kernel_rfl) (by kernel_rfl) (fun _ _ _ h => h) (Or.inl ⟨by rfl, fun x j => by go_simp⟩) j0 (fun K hK => ?_)
      go_simp
      refine hK _ _ ?_
      clear hK K
      refine held_take 9 (.bool false) rfl (by kernel_rfl) (by kernel_rfl) (by kernel_rfl) (fun _ _ _ h => h) (Or.inl ⟨by rfl, fun x j => by go_simp⟩) j0 (fun K hK => ?_)
      go_simp
      refine hK _ _ ?_
      clear hK K
      refine held_take 10 (.bool false) rfl (by kernel_rfl) (by kernel_rfl) (by kernel_rfl) (fun _ _ _ h => h) (Or.inl ⟨by rfl, fun x j => by go_simp⟩) j0 (fun K hK => ?_)
      go_simp
      refine hK _ _ ?_
      clear hK K
      refine held_take 20 (.int .i64 0) rfl (by kernel_rfl) (by kernel_rfl) (by kernel_rfl) (fun _ _ _ h => h) (Or.inl ⟨by rfl, fun x j => by go_simp⟩) j0 (fun K hK => ?_)
      go_simp
      refine hK _ _ ?_
      clear hK K
      refine held_take 11 (.string t) rfl (by kernel_rfl) (by kernel_rfl) (by kernel_rfl) (fun _ _ _ h => h) (Or.inl ⟨by rfl, fun x j => by go_simp⟩) j0 (fun K hK => ?_)
      go_simp
      refine hK _ _ ?_
      clear hK K
      refine held_take 12 (.int .i64 (t.size : Int)) rfl (by kernel_rfl) (by kernel_rfl) (by kernel_rfl) (fun _ _ _ h => h) (Or.inl ⟨by rfl, fun x j => by go_simp⟩) j0 (fun K hK => ?_)
      go_simp
      refine hK _ _ ?_
      clear hK K
      refine held_take 13 (.pointer (some ⟨u, 0, none⟩)) rfl (by kernel_rfl) (by kernel_rfl) (by kernel_rfl) (fun _ _ _ h => h) (Or.inl ⟨by rfl, fun x j => by go_simp⟩) j0 (fun K hK => ?_)
      go_simp
      refine hK _ _ ?_
      clear hK K
      refine held_take 14 (.pointer (some ⟨u, 0, none⟩)) rfl (by kernel_rfl) (by kernel_rfl) (by kernel_rfl) (fun _ _ _ h => h) (Or.inl ⟨by rfl, fun x j => by go_simp⟩) j0 (fun K hK => ?_)
      go_simp
      refine hK _ _ ?_
      clear hK K
      refine held_take 15 (.pointer (some ⟨u, 1, none⟩)) rfl (by kernel_rfl) (by kernel_rfl) (by kernel_rfl) (fun _ _ _ h => h) (Or.inl ⟨by rfl, fun x j => by go_simp⟩) j0 (fun K hK => ?_)
      go_simp
      refine hK _ _ ?_
      clear hK K
      refine held_take 16 (.int .i64 D.room) rfl (by kernel_rfl) (by kernel_rfl) (by kernel_rfl) (fun _ _ _ h => h) (Or.inl ⟨by rfl, fun x j => by have c0 := (RMH.out x j.1).1; go_simp⟩) j0 (fun K hK => ?_)
      go_simp
      refine hK _ _ ?_
      clear hK K
      refine held_take 17 (.pointer (some ⟨u, 0, none⟩)) rfl (by kernel_rfl) (by kernel_rfl) (by kernel_rfl) (fun _ _ _ h => h) (Or.inl ⟨by rfl, fun x j => by go_simp⟩) j0 (fun K hK => ?_)
      go_simp
      refine hK _ _ ?_
      clear hK K
      refine held_one 18 (by kernel_rfl) (fun K hK => wpOp_in rfl rfl ?_)
      go_simp
      refine (US.out _ j0.1).mono ?_
      rintro e w' ⟨rfl, rfl⟩
      refine hK _ _ j0 ?_
      clear hK K
      refine held_take 19 (.int .i64 (D.room - (usedF D.L : Int))) rfl (by kernel_rfl) (by kernel_rfl) (by kernel_rfl) (fun _ _ _ h => h) (Or.inl ⟨by rfl, fun x j => by go_simp⟩) j0 (fun K hK => ?_)
      go_simp
      refine hK _ _ ?_
      clear hK K
      refine held_take 21 (.int .i64 (D.room - (usedF D.L : Int))) rfl (by kernel_rfl) (by kernel_rfl) (by kernel_rfl) (fun _ _ _ h => h) (Or.inl ⟨by rfl, fun x j => by go_simp⟩) j0 (fun K hK => ?_)
      go_simp
      refine hK _ _ ?_
      clear hK K
      refine held_take 22 (.bool true) rfl (by kernel_rfl) (by kernel_rfl) (by kernel_rfl) (fun _ _ _ h => h) (Or.inl ⟨by rfl, fun x j => by go_simp⟩) j0 (fun K hK => ?_)
      go_simp
      refine hK _ _ ?_
      clear hK K
      refine held_take 23 (.bool true) rfl (by kernel_rfl) (by kernel_rfl) (by kernel_rfl) (fun _ _ _ h => h) (Or.inl ⟨by rfl, fun x j => by go_simp⟩) j0 (fun K hK => ?_)
      go_simp
      refine hK _ _ ?_
      clear hK K
      refine wpAnyH_done (by kernel_rfl) ?_ _
      have PHH := Lib.hid (show RPost w wd u _ D from ⟨_, a, mo, j0.1, j0.2⟩)
      clear j0
      go_wp2
      go_ret
      exact ⟨rfl, PHH.out⟩
    · rw [lay_no gs hg (by omega)]
      have hc2 : ¬ D.room - (usedF D.L : Int) < (t.size : Int) := by omega
      have en := del_none (get_none hg)
      have ok := lay_ok h.ok (b := kl t) gs (by rw [en]; omega) (by rw [en]; omega)
      rw [en] at ok ⊢
      have OKH := Lib.hid ok
      clear ok
      go_enter Try.func32, Try.ntmps32
      go_wp2_with fail
      refine PL.mono ?_
      rintro e w' ⟨i, rfl, PI, rfl⟩
      clear PL
      rcases PI with ⟨rfl, e⟩ | ⟨n, f', rfl, p1, p2, p3⟩
      case inr => rw [hg] at p3; cases p3
      obtain ⟨o, cap, ev, _⟩ := h.form
      subst ev
      have US := Lib.hid fun x (h : RefAt x u (.slice o D.L.length cap) a mo D) => rused_any h
      have RM : ∀ x, RefAt x u (.slice o D.L.length cap) a mo D → x.cell? ⟨u, 1, none⟩ = some (.int .i64 D.room) ∧ x.cell? ⟨u, 0, none⟩ = some (.slice o D.L.length cap) := fun x h => by
        have c := h.cell 1
        have d := h.cell 0
        exact ⟨by simpa [refV] using c, by simpa [refV] using d⟩
      have RMH := Lib.hid RM
      have ro0 := h.ok.room0
      have ro1 := h.ok.room1
      have uu := h.ok.used
      have q1 : IntKind.i64.wrap (D.room - (usedF D.L : Int)) = D.room - (usedF D.L : Int) := IntWalk.i64_in _ (by omega)
      clear RM
      go_upto_region 7 with (fail)
      refine wp_region_held (S := fun x => RefAt x u (.slice o D.L.length cap) a mo D ∧ Goes w x (rzone u (.slice o D.L.length cap)) (rzone u (.slice o D.L.length cap))) (by kernel_rfl) ?_
      change wpAnyH _ _ _ _ _ _ _ _ w.drew
      have j0 : RefAt w.drew u (.slice o D.L.length cap) a mo D ∧ Goes w w.drew (rzone u (.slice o D.L.length cap)) (rzone u (.slice o D.L.length cap)) := ⟨h.drewN 1, Goes.drewN w 1 _⟩
      clear h
      generalize w.drew = wd at j0 ⊢
      refine held_take 0 (.int .i64 (-1)) rfl (by kernel_rfl) (by kernel_rfl) (by kernel_rfl) (fun _ _ _ h => h) (Or.inl ⟨by rfl, fun x j => by go_simp⟩) j0 (fun K hK => ?_)
      go_simp
      refine hK _ _ ?_
      clear hK K
      refine held_take 1 (.bool true) rfl (by kernel_rfl) (by kernel_rfl) (by kernel_rfl) (fun _ _ _ h => h) (Or.inl ⟨by rfl, fun x j => by go_simp⟩) j0 (fun K hK => ?_)
      go_simp
      refine hK _ _ ?_
      clear hK K
      refine held_take 2 (.bool true) rfl (by kernel_rfl) (by kernel_rfl) (by kernel_rfl) (fun _ _ _ h => h) (Or.inl ⟨by rfl, fun x j => by go_simp⟩) j0 (fun K hK => ?_)
      go_simp
      refine hK _ _ ?_
      clear hK K
      refine held_take 3 (.pointer (some ⟨u, 0, none⟩)) rfl (by kernel_rfl) (by kernel_rfl) (by kernel_rfl) (fun _ _ _ h => h) (Or.inl ⟨by rfl, fun x j => by go_simp⟩) j0 (fun K hK => ?_)
      go_simp
      refine hK _ _ ?_
      clear hK K
      refine held_take 4 (.pointer (some ⟨u, 0, none⟩)) rfl (by kernel_rfl) (by kernel_rfl) (by kernel_rfl) (fun _ _ _ h => h) (Or.inl ⟨by rfl, fun x j => by go_simp⟩) j0 (fun K hK => ?_)
      go_simp
      refine hK _ _ ?_
      clear hK K
      refine held_take 5 (.pointer (some ⟨u, 0, none⟩)) rfl (by kernel_rfl) (by kernel_rfl) (by kernel_rfl) (fun _ _ _ h => h) (Or.inl ⟨by rfl, fun x j => by go_simp⟩) j0 (fun K hK => ?_)
      go_simp
      refine hK _ _ ?_
      clear hK K
      refine held_take 6 ((.slice o D.L.length cap)) rfl (by kernel_rfl) (by kernel_rfl) (by kernel_rfl) (fun _ _ _ h => h) (Or.inl ⟨by rfl, fun x j => by have c0 := (RMH.out x j.1).2; go_simp⟩) j0 (fun K hK => ?_)
      go_simp
      refine hK _ _ ?_
      clear hK K
      refine held_take 7 (.int .i64 (D.L.length : Int)) rfl (by kernel_rfl) (by kernel_rfl) (by kernel_rfl) (fun _ _ _ h => h) (Or.inl ⟨by rfl, fun x j => by go_simp⟩) j0 (fun K hK => ?_)
      go_simp
      refine hK _ _ ?_
      clear hK K
      refine held_take 8 (.bool false) rfl (by kernel_rfl) (by kernel_rfl) (by kernel_rfl) (fun _ _ _ h => h) (Or.inl ⟨by rfl, fun x j => by go_simp⟩) j0 (fun K hK => ?_)
      go_simp
      refine hK _ _ ?_
      clear hK K
      refine held_take 9 (.bool false) rfl (by kernel_rfl) (by kernel_rfl) (by kernel_rfl) (fun _ _ _ h => h) (Or.inl ⟨by rfl, fun x j => by go_simp⟩) j0 (fun K hK => ?_)
      go_simp
      refine hK _ _ ?_
      clear hK K
      refine held_take 10 (.bool false) rfl (by kernel_rfl) (by kernel_rfl) (by kernel_rfl) (fun _ _ _ h => h) (Or.inl ⟨by rfl, fun x j => by go_simp⟩) j0 (fun K hK => ?_)
      go_simp
      refine hK _ _ ?_
      clear hK K
      refine held_take 20 (.int .i64 0) rfl (by kernel_rfl) (by kernel_rfl) (by kernel_rfl) (fun _ _ _ h => h) (Or.inl ⟨by rfl, fun x j => by go_simp⟩) j0 (fun K hK => ?_)
      go_simp
      refine hK _ _ ?_
      clear hK K
      refine held_take 11 (.string t) rfl (by kernel_rfl) (by kernel_rfl) (by kernel_rfl) (fun _ _ _ h => h) (Or.inl ⟨by rfl, fun x j => by go_simp⟩) j0 (fun K hK => ?_)
      go_simp
      refine hK _ _ ?_
      clear hK K
      refine held_take 12 (.int .i64 (t.size : Int)) rfl (by kernel_rfl) (by kernel_rfl) (by kernel_rfl) (fun _ _ _ h => h) (Or.inl ⟨by rfl, fun x j => by go_simp⟩) j0 (fun K hK => ?_)
      go_simp
      refine hK _ _ ?_
      clear hK K
      refine held_take 13 (.pointer (some ⟨u, 0, none⟩)) rfl (by kernel_rfl) (by kernel_rfl) (by kernel_rfl) (fun _ _ _ h => h) (Or.inl ⟨by rfl, fun x j => by go_simp⟩) j0 (fun K hK => ?_)
      go_simp
      refine hK _ _ ?_
      clear hK K
      refine held_take 14 (.pointer (some ⟨u, 0, none⟩)) rfl (by kernel_rfl) (by kernel_rfl) (by kernel_rfl) (fun _ _ _ h => h) (Or.inl ⟨by rfl, fun x j => by go_simp⟩) j0 (fun K hK => ?_)
      go_simp
      refine hK _ _ ?_
      clear hK K
      refine held_take 15 (.pointer (some ⟨u, 1, none⟩)) rfl (by kernel_rfl) (by kernel_rfl) (by kernel_rfl) (fun _ _ _ h => h) (Or.inl ⟨by rfl, fun x j => by go_simp⟩) j0 (fun K hK => ?_)
      go_simp
      refine hK _ _ ?_
      clear hK K
      refine held_take 16 (.int .i64 D.room) rfl (by kernel_rfl) (by kernel_rfl) (by kernel_rfl) (fun _ _ _ h => h) (Or.inl ⟨by rfl, fun x j => by have c0 := (RMH.out x j.1).1; go_simp⟩) j0 (fun K hK => ?_)
      go_simp
      refine hK _ _ ?_
      clear hK K
      refine held_take 17 (.pointer (some ⟨u, 0, none⟩)) rfl (by kernel_rfl) (by kernel_rfl) (by kernel_rfl) (fun _ _ _ h => h) (Or.inl ⟨by rfl, fun x j => by go_simp⟩) j0 (fun K hK => ?_)
      go_simp
      refine hK _ _ ?_
      clear hK K
      refine held_one 18 (by kernel_rfl) (fun K hK => wpOp_in rfl rfl ?_)
      go_simp
      refine (US.out _ j0.1).mono ?_
      rintro e w' ⟨rfl, rfl⟩
      refine hK _ _ j0 ?_
      clear hK K
      refine held_take 19 (.int .i64 (D.room - (usedF D.L : Int))) rfl (by kernel_rfl) (by kernel_rfl) (by kernel_rfl) (fun _ _ _ h => h) (Or.inl ⟨by rfl, fun x j => by go_simp⟩) j0 (fun K hK => ?_)
      go_simp
      refine hK _ _ ?_
      clear hK K
      refine held_take 21 (.int .i64 (D.room - (usedF D.L : Int))) rfl (by kernel_rfl) (by kernel_rfl) (by kernel_rfl) (fun _ _ _ h => h) (Or.inl ⟨by rfl, fun x j => by go_simp⟩) j0 (fun K hK => ?_)
      go_simp
      refine hK _ _ ?_
      clear hK K
      refine held_take 22 (.bool false) rfl (by kernel_rfl) (by kernel_rfl) (by kernel_rfl) (fun _ _ _ h => h) (Or.inl ⟨by rfl, fun x j => by go_simp⟩) j0 (fun K hK => ?_)
      go_simp
      refine hK _ _ ?_
      clear hK K
      refine held_take 23 (.bool false) rfl (by kernel_rfl) (by kernel_rfl) (by kernel_rfl) (fun _ _ _ h => h) (Or.inl ⟨by rfl, fun x j => by go_simp⟩) j0 (fun K hK => ?_)
      go_simp
      refine hK _ _ ?_
      clear hK K
      refine wpAnyH_done (by kernel_rfl) ?_ _
      have PU := rput_any j0.1 ⟨kl s, kl t, (kl t).length⟩ OKH.out
      simp only [nmB_kl, hkt] at PU
      have GH := Lib.hid j0.2
      clear j0
      go_wp2_with fail
      refine PU.mono ?_
      rintro e w2 ⟨rfl, P2⟩
      have PH := Lib.hid (P2.next GH.out)
      clear PU P2
      go_wp2
      go_ret
      exact ⟨rfl, by rw [hkt]; exact PH.out⟩
  | some f =>
    by_cases hc : D.room < (usedF D.L : Int) + ((kl t).length : Int) - (f.bs.length : Int)
    · rw [lay_sf gs hg hc]
      have hc2 : D.room - (usedF D.L : Int) + (f.bs.length : Int) < (t.size : Int) := by omega
      go_enter Try.func32, Try.ntmps32
      go_wp2_with fail
      refine PL.mono ?_
      rintro e w' ⟨i, rfl, PI, rfl⟩
      clear PL
      rcases PI with ⟨_, e⟩ | ⟨n, f', rfl, p1, p2, p3⟩
      · rw [hg] at e; cases e
      obtain rfl : f = f' := by rw [hg] at p3; injection p3
      have n1 : ¬ (n : Int) < 0 := by omega
      have nl := (List.getElem?_eq_some_iff.1 p1).1
      have n2 : (n : Int) < (D.L.length : Int) := by omega
      obtain ⟨g, cap, ev, cells, _⟩ := h.file p1
      have cS := cells 1 _ rfl
      have c9 := h.cell 0
      subst ev
      simp [refV] at c9
      have sz := nmB_size f.bs
      have fz := mem_used (List.mem_of_getElem? p1)
      have US := Lib.hid fun x (h : RefAt x u (.slice (some ⟨g, 0, none⟩) D.L.length cap) a mo D) => rused_any h
      have RM : ∀ x, RefAt x u (.slice (some ⟨g, 0, none⟩) D.L.length cap) a mo D → x.cell? ⟨u, 1, none⟩ = some (.int .i64 D.room) ∧ x.cell? ⟨u, 0, none⟩ = some (.slice (some ⟨g, 0, none⟩) D.L.length cap) := fun x h => by
        have c := h.cell 1
        have d := h.cell 0
        exact ⟨by simpa [refV] using c, by simpa [refV] using d⟩
      have RMH := Lib.hid RM
      have ro0 := h.ok.room0
      have ro1 := h.ok.room1
      have uu := h.ok.used
      have q1 : IntKind.i64.wrap (D.room - (usedF D.L : Int)) = D.room - (usedF D.L : Int) := IntWalk.i64_in _ (by omega)
      clear RM
      have q2 : IntKind.i64.wrap (D.room - (usedF D.L : Int) + (f.bs.length : Int)) = D.room - (usedF D.L : Int) + (f.bs.length : Int) := IntWalk.i64_in _ (by omega)
      go_upto_region 7 with (fail)
      refine wp_region_held (S := fun x => RefAt x u (.slice (some ⟨g, 0, none⟩) D.L.length cap) a mo D ∧ Goes w x (rzone u (.slice (some ⟨g, 0, none⟩) D.L.length cap)) (rzone u (.slice (some ⟨g, 0, none⟩) D.L.length cap))) (by kernel_rfl) ?_
      change wpAnyH _ _ _ _ _ _ _ _ w.drew
      have j0 : RefAt w.drew u (.slice (some ⟨g, 0, none⟩) D.L.length cap) a mo D ∧ Goes w w.drew (rzone u (.slice (some ⟨g, 0, none⟩) D.L.length cap)) (rzone u (.slice (some ⟨g, 0, none⟩) D.L.length cap)) := ⟨h.drewN 1, Goes.drewN w 1 _⟩
      clear h
      generalize w.drew = wd at j0 ⊢
      refine held_take 0 (.int .i64 (n : Int)) rfl (by kernel_rfl) (by kernel_rfl) (by kernel_rfl) (fun _ _ _ h => h) (Or.inl ⟨by rfl, fun x j => by go_simp⟩) j0 (fun K hK => ?_)
      go_simp
      refine hK _ _ ?_
      clear hK K
      refine held_take 1 (.bool false) rfl (by kernel_rfl) (by kernel_rfl) (by kernel_rfl) (fun _ _ _ h => h) (Or.inl ⟨by rfl, fun x j => by go_simp⟩) j0 (fun K hK => ?_)
      go_simp
      refine hK _ _ ?_
      clear hK K
      refine held_take 2 (.bool false) rfl (by kernel_rfl) (by kernel_rfl) (by kernel_rfl) (fun _ _ _ h => h) (Or.inl ⟨by rfl, fun x j => by go_simp⟩) j0 (fun K hK => ?_)
      go_simp
      refine hK _ _ ?_
      clear hK K
      refine held_take 3 (undef) rfl (by kernel_rfl) (by kernel_rfl) (by kernel_rfl) (fun _ _ _ h => h) (Or.inr ⟨by rfl, rfl⟩) j0 (fun K hK => ?_)
      go_simp
      refine hK _ _ ?_
      clear hK K
      refine held_take 4 (undef) rfl (by kernel_rfl) (by kernel_rfl) (by kernel_rfl) (fun _ _ _ h => h) (Or.inr ⟨by rfl, rfl⟩) j0 (fun K hK => ?_)
      go_simp
      refine hK _ _ ?_
      clear hK K
      refine held_take 5 (undef) rfl (by kernel_rfl) (by kernel_rfl) (by kernel_rfl) (fun _ _ _ h => h) (Or.inr ⟨by rfl, rfl⟩) j0 (fun K hK => ?_)
      go_simp
      refine hK _ _ ?_
      clear hK K
      refine held_take 6 (undef) rfl (by kernel_rfl) (by kernel_rfl) (by kernel_rfl) (fun _ _ _ h => h) (Or.inr ⟨by rfl, rfl⟩) j0 (fun K hK => ?_)
      go_simp
      refine hK _ _ ?_
      clear hK K
      refine held_take 7 (undef) rfl (by kernel_rfl) (by kernel_rfl) (by kernel_rfl) (fun _ _ _ h => h) (Or.inr ⟨by rfl, rfl⟩) j0 (fun K hK => ?_)
      go_simp
      refine hK _ _ ?_
      clear hK K
      refine held_take 8 (undef) rfl (by kernel_rfl) (by kernel_rfl) (by kernel_rfl) (fun _ _ _ h => h) (Or.inr ⟨by rfl, rfl⟩) j0 (fun K hK => ?_)
      go_simp
      refine hK _ _ ?_
      clear hK K
      refine held_take 9 (.bool false) rfl (by kernel_rfl) (by kernel_rfl) (by kernel_rfl) (fun _ _ _ h => h) (Or.inl ⟨by rfl, fun x j => by go_simp⟩) j0 (fun K hK => ?_)
      go_simp
      refine hK _ _ ?_
      clear hK K
      refine held_take 10 (.bool false) rfl (by kernel_rfl) (by kernel_rfl) (by kernel_rfl) (fun _ _ _ h => h) (Or.inl ⟨by rfl, fun x j => by go_simp⟩) j0 (fun K hK => ?_)
      go_simp
      refine hK _ _ ?_
      clear hK K
      refine held_take 20 (.int .i64 (f.bs.length : Int)) rfl (by kernel_rfl) (by kernel_rfl) (by kernel_rfl) (fun _ _ _ h => h) (Or.inl ⟨by rfl, fun x j => by go_simp⟩) j0 (fun K hK => ?_)
      go_simp
      refine hK _ _ ?_
      clear hK K
      refine held_take 11 (.string t) rfl (by kernel_rfl) (by kernel_rfl) (by kernel_rfl) (fun _ _ _ h => h) (Or.inl ⟨by rfl, fun x j => by go_simp⟩) j0 (fun K hK => ?_)
      go_simp
      refine hK _ _ ?_
      clear hK K
      refine held_take 12 (.int .i64 (t.size : Int)) rfl (by kernel_rfl) (by kernel_rfl) (by kernel_rfl) (fun _ _ _ h => h) (Or.inl ⟨by rfl, fun x j => by go_simp⟩) j0 (fun K hK => ?_)
      go_simp
      refine hK _ _ ?_
      clear hK K
      refine held_take 13 (.pointer (some ⟨u, 0, none⟩)) rfl (by kernel_rfl) (by kernel_rfl) (by kernel_rfl) (fun _ _ _ h => h) (Or.inl ⟨by rfl, fun x j => by go_simp⟩) j0 (fun K hK => ?_)
      go_simp
      refine hK _ _ ?_
      clear hK K
      refine held_take 14 (.pointer (some ⟨u, 0, none⟩)) rfl (by kernel_rfl) (by kernel_rfl) (by kernel_rfl) (fun _ _ _ h => h) (Or.inl ⟨by rfl, fun x j => by go_simp⟩) j0 (fun K hK => ?_)
      go_simp
      refine hK _ _ ?_
      clear hK K
      refine held_take 15 (.pointer (some ⟨u, 1, none⟩)) rfl (by kernel_rfl) (by kernel_rfl) (by kernel_rfl) (fun _ _ _ h => h) (Or.inl ⟨by rfl, fun x j => by go_simp⟩) j0 (fun K hK => ?_)
      go_simp
      refine hK _ _ ?_
      clear hK K
      refine held_take 16 (.int .i64 D.room) rfl (by kernel_rfl) (by kernel_rfl) (by kernel_rfl) (fun _ _ _ h => h) (Or.inl ⟨by rfl, fun x j => by have c0 := (RMH.out x j.1).1; go_simp⟩) j0 (fun K hK => ?_)
      go_simp
      refine hK _ _ ?_
      clear hK K
      refine held_take 17 (.pointer (some ⟨u, 0, none⟩)) rfl (by kernel_rfl) (by kernel_rfl) (by kernel_rfl) (fun _ _ _ h => h) (Or.inl ⟨by rfl, fun x j => by go_simp⟩) j0 (fun K hK => ?_)
      go_simp
      refine hK _ _ ?_
      clear hK K
      refine held_one 18 (by kernel_rfl) (fun K hK => wpOp_in rfl rfl ?_)
      go_simp
      refine (US.out _ j0.1).mono ?_
      rintro e w' ⟨rfl, rfl⟩
      refine hK _ _ j0 ?_
      clear hK K
      refine held_take 19 (.int .i64 (D.room - (usedF D.L : Int))) rfl (by kernel_rfl) (by kernel_rfl) (by kernel_rfl) (fun _ _ _ h => h) (Or.inl ⟨by rfl, fun x j => by go_simp⟩) j0 (fun K hK => ?_)
      go_simp
      refine hK _ _ ?_
      clear hK K
      refine held_take 21 (.int .i64 (D.room - (usedF D.L : Int) + (f.bs.length : Int))) rfl (by kernel_rfl) (by kernel_rfl) (by kernel_rfl) (fun _ _ _ h => h) (Or.inl ⟨by rfl, fun x j => by go_simp⟩) j0 (fun K hK => ?_)
      go_simp
      refine hK _ _ ?_
      clear hK K
      refine held_take 22 (.bool true) rfl (by kernel_rfl) (by kernel_rfl) (by kernel_rfl) (fun _ _ _ h => h) (Or.inl ⟨by rfl, fun x j => by go_simp⟩) j0 (fun K hK => ?_)
      go_simp
      refine hK _ _ ?_
      clear hK K
      refine held_take 23 (.bool true) rfl (by kernel_rfl) (by kernel_rfl) (by kernel_rfl) (fun _ _ _ h => h) (Or.inl ⟨by rfl, fun x j => by go_simp⟩) j0 (fun K hK => ?_)
      go_simp
      refine hK _ _ ?_
      clear hK K
      refine wpAnyH_done (by kernel_rfl) ?_ _
      have PHH := Lib.hid (show RPost w wd u _ D from ⟨_, a, mo, j0.1, j0.2⟩)
      clear j0
      go_wp2
      go_ret
      exact ⟨rfl, PHH.out⟩
    · rw [lay_so gs hg hc]
      have hc2 : ¬ D.room - (usedF D.L : Int) + (f.bs.length : Int) < (t.size : Int) := by omega
      obtain ⟨fm, fn⟩ := get_some hg
      have ud := used_del h.ok.up.ne fm
      have ld := len_del h.ok.up.ne fm
      have lc := h.ok.cnt
      rw [fn] at ud ld
      have OKH := Lib.hid (lay_ok h.ok (b := kl t) gs (by omega) (by omega))
      clear ud ld fm fn
      go_enter Try.func32, Try.ntmps32
      go_wp2_with fail
      refine PL.mono ?_
      rintro e w' ⟨i, rfl, PI, rfl⟩
      clear PL
      rcases PI with ⟨_, e⟩ | ⟨n, f', rfl, p1, p2, p3⟩
      · rw [hg] at e; cases e
      obtain rfl : f = f' := by rw [hg] at p3; injection p3
      have n1 : ¬ (n : Int) < 0 := by omega
      have nl := (List.getElem?_eq_some_iff.1 p1).1
      have n2 : (n : Int) < (D.L.length : Int) := by omega
      obtain ⟨g, cap, ev, cells, _⟩ := h.file p1
      have cS := cells 1 _ rfl
      have c9 := h.cell 0
      subst ev
      simp [refV] at c9
      have sz := nmB_size f.bs
      have fz := mem_used (List.mem_of_getElem? p1)
      have US := Lib.hid fun x (h : RefAt x u (.slice (some ⟨g, 0, none⟩) D.L.length cap) a mo D) => rused_any h
      have RM : ∀ x, RefAt x u (.slice (some ⟨g, 0, none⟩) D.L.length cap) a mo D → x.cell? ⟨u, 1, none⟩ = some (.int .i64 D.room) ∧ x.cell? ⟨u, 0, none⟩ = some (.slice (some ⟨g, 0, none⟩) D.L.length cap) := fun x h => by
        have c := h.cell 1
        have d := h.cell 0
        exact ⟨by simpa [refV] using c, by simpa [refV] using d⟩
      have RMH := Lib.hid RM
      have ro0 := h.ok.room0
      have ro1 := h.ok.room1
      have uu := h.ok.used
      have q1 : IntKind.i64.wrap (D.room - (usedF D.L : Int)) = D.room - (usedF D.L : Int) := IntWalk.i64_in _ (by omega)
      clear RM
      have q2 : IntKind.i64.wrap (D.room - (usedF D.L : Int) + (f.bs.length : Int)) = D.room - (usedF D.L : Int) + (f.bs.length : Int) := IntWalk.i64_in _ (by omega)
      go_upto_region 7 with (fail)
      refine wp_region_held (S := fun x => RefAt x u (.slice (some ⟨g, 0, none⟩) D.L.length cap) a mo D ∧ Goes w x (rzone u (.slice (some ⟨g, 0, none⟩) D.L.length cap)) (rzone u (.slice (some ⟨g, 0, none⟩) D.L.length cap))) (by kernel_rfl) ?_
      change wpAnyH _ _ _ _ _ _ _ _ w.drew
      have j0 : RefAt w.drew u (.slice (some ⟨g, 0, none⟩) D.L.length cap) a mo D ∧ Goes w w.drew (rzone u (.slice (some ⟨g, 0, none⟩) D.L.length cap)) (rzone u (.slice (some ⟨g, 0, none⟩) D.L.length cap)) := ⟨h.drewN 1, Goes.drewN w 1 _⟩
      clear h
      generalize w.drew = wd at j0 ⊢
      refine held_take 0 (.int .i64 (n : Int)) rfl (by kernel_rfl) (by kernel_rfl) (by kernel_rfl) (fun _ _ _ h => h) (Or.inl ⟨by rfl, fun x j => by go_simp⟩) j0 (fun K hK => ?_)
      go_simp
      refine hK _ _ ?_
      clear hK K
      refine held_take 1 (.bool false) rfl (by kernel_rfl) (by kernel_rfl) (by kernel_rfl) (fun _ _ _ h => h) (Or.inl ⟨by rfl, fun x j => by go_simp⟩) j0 (fun K hK => ?_)
      go_simp
      refine hK _ _ ?_
      clear hK K
      refine held_take 2 (.bool false) rfl (by kernel_rfl) (by kernel_rfl) (by kernel_rfl) (fun _ _ _ h => h) (Or.inl ⟨by rfl, fun x j => by go_simp⟩) j0 (fun K hK => ?_)
      go_simp
      refine hK _ _ ?_
      clear hK K
      refine held_take 3 (undef) rfl (by kernel_rfl) (by kernel_rfl) (by kernel_rfl) (fun _ _ _ h => h) (Or.inr ⟨by rfl, rfl⟩) j0 (fun K hK => ?_)
      go_simp
      refine hK _ _ ?_
      clear hK K
      refine held_take 4 (undef) rfl (by kernel_rfl) (by kernel_rfl) (by kernel_rfl) (fun _ _ _ h => h) (Or.inr ⟨by rfl, rfl⟩) j0 (fun K hK => ?_)
      go_simp
      refine hK _ _ ?_
      clear hK K
      refine held_take 5 (undef) rfl (by kernel_rfl) (by kernel_rfl) (by kernel_rfl) (fun _ _ _ h => h) (Or.inr ⟨by rfl, rfl⟩) j0 (fun K hK => ?_)
      go_simp
      refine hK _ _ ?_
      clear hK K
      refine held_take 6 (undef) rfl (by kernel_rfl) (by kernel_rfl) (by kernel_rfl) (fun _ _ _ h => h) (Or.inr ⟨by rfl, rfl⟩) j0 (fun K hK => ?_)
      go_simp
      refine hK _ _ ?_
      clear hK K
      refine held_take 7 (undef) rfl (by kernel_rfl) (by kernel_rfl) (by kernel_rfl) (fun _ _ _ h => h) (Or.inr ⟨by rfl, rfl⟩) j0 (fun K hK => ?_)
      go_simp
      refine hK _ _ ?_
      clear hK K
      refine held_take 8 (undef) rfl (by kernel_rfl) (by kernel_rfl) (by kernel_rfl) (fun _ _ _ h => h) (Or.inr ⟨by rfl, rfl⟩) j0 (fun K hK => ?_)
      go_simp
      refine hK _ _ ?_
      clear hK K
      refine held_take 9 (.bool false) rfl (by kernel_rfl) (by kernel_rfl) (by kernel_rfl) (fun _ _ _ h => h) (Or.inl ⟨by rfl, fun x j => by go_simp⟩) j0 (fun K hK => ?_)
      go_simp
      refine hK _ _ ?_
      clear hK K
      refine held_take 10 (.bool false) rfl (by kernel_rfl) (by kernel_rfl) (by kernel_rfl) (fun _ _ _ h => h) (Or.inl ⟨by rfl, fun x j => by go_simp⟩) j0 (fun K hK => ?_)
      go_simp
      refine hK _ _ ?_
      clear hK K
      refine held_take 20 (.int .i64 (f.bs.length : Int)) rfl (by kernel_rfl) (by kernel_rfl) (by kernel_rfl) (fun _ _ _ h => h) (Or.inl ⟨by rfl, fun x j => by go_simp⟩) j0 (fun K hK => ?_)
      go_simp
      refine hK _ _ ?_
      clear hK K
      refine held_take 11 (.string t) rfl (by kernel_rfl) (by kernel_rfl) (by kernel_rfl) (fun _ _ _ h => h) (Or.inl ⟨by rfl, fun x j => by go_simp⟩) j0 (fun K hK => ?_)
      go_simp
      refine hK _ _ ?_
      clear hK K
      refine held_take 12 (.int .i64 (t.size : Int)) rfl (by kernel_rfl) (by kernel_rfl) (by kernel_rfl) (fun _ _ _ h => h) (Or.inl ⟨by rfl, fun x j => by go_simp⟩) j0 (fun K hK => ?_)
      go_simp
      refine hK _ _ ?_
      clear hK K
      refine held_take 13 (.pointer (some ⟨u, 0, none⟩)) rfl (by kernel_rfl) (by kernel_rfl) (by kernel_rfl) (fun _ _ _ h => h) (Or.inl ⟨by rfl, fun x j => by go_simp⟩) j0 (fun K hK => ?_)
      go_simp
      refine hK _ _ ?_
      clear hK K
      refine held_take 14 (.pointer (some ⟨u, 0, none⟩)) rfl (by kernel_rfl) (by kernel_rfl) (by kernel_rfl) (fun _ _ _ h => h) (Or.inl ⟨by rfl, fun x j => by go_simp⟩) j0 (fun K hK => ?_)
      go_simp
      refine hK _ _ ?_
      clear hK K
      refine held_take 15 (.pointer (some ⟨u, 1, none⟩)) rfl (by kernel_rfl) (by kernel_rfl) (by kernel_rfl) (fun _ _ _ h => h) (Or.inl ⟨by rfl, fun x j => by go_simp⟩) j0 (fun K hK => ?_)
      go_simp
      refine hK _ _ ?_
      clear hK K
      refine held_take 16 (.int .i64 D.room) rfl (by kernel_rfl) (by kernel_rfl) (by kernel_rfl) (fun _ _ _ h => h) (Or.inl ⟨by rfl, fun x j => by have c0 := (RMH.out x j.1).1; go_simp⟩) j0 (fun K hK => ?_)
      go_simp
      refine hK _ _ ?_
      clear hK K
      refine held_take 17 (.pointer (some ⟨u, 0, none⟩)) rfl (by kernel_rfl) (by kernel_rfl) (by kernel_rfl) (fun _ _ _ h => h) (Or.inl ⟨by rfl, fun x j => by go_simp⟩) j0 (fun K hK => ?_)
      go_simp
      refine hK _ _ ?_
      clear hK K
      refine held_one 18 (by kernel_rfl) (fun K hK => wpOp_in rfl rfl ?_)
      go_simp
      refine (US.out _ j0.1).mono ?_
      rintro e w' ⟨rfl, rfl⟩
      refine hK _ _ j0 ?_
      clear hK K
      refine held_take 19 (.int .i64 (D.room - (usedF D.L : Int))) rfl (by kernel_rfl) (by kernel_rfl) (by kernel_rfl) (fun _ _ _ h => h) (Or.inl ⟨by rfl, fun x j => by go_simp⟩) j0 (fun K hK => ?_)
      go_simp
      refine hK _ _ ?_
      clear hK K
      refine held_take 21 (.int .i64 (D.room - (usedF D.L : Int) + (f.bs.length : Int))) rfl (by kernel_rfl) (by kernel_rfl) (by kernel_rfl) (fun _ _ _ h => h) (Or.inl ⟨by rfl, fun x j => by go_simp⟩) j0 (fun K hK => ?_)
      go_simp
      refine hK _ _ ?_
      clear hK K
      refine held_take 22 (.bool false) rfl (by kernel_rfl) (by kernel_rfl) (by kernel_rfl) (fun _ _ _ h => h) (Or.inl ⟨by rfl, fun x j => by go_simp⟩) j0 (fun K hK => ?_)
      go_simp
      refine hK _ _ ?_
      clear hK K
      refine held_take 23 (.bool false) rfl (by kernel_rfl) (by kernel_rfl) (by kernel_rfl) (fun _ _ _ h => h) (Or.inl ⟨by rfl, fun x j => by go_simp⟩) j0 (fun K hK => ?_)
      go_simp
      refine hK _ _ ?_
      clear hK K
      refine wpAnyH_done (by kernel_rfl) ?_ _
      have DR := rdrop_any j0.1 p1
      rw [p2] at DR
      have GH := Lib.hid j0.2
      clear j0
      go_wp2_with fail
      refine DR.mono ?_
      rintro e w2 ⟨rfl, v2, a2, m2, R2, G2⟩
      clear DR
      have PU := rput_any R2 ⟨kl s, kl t, (kl t).length⟩ OKH.out
      simp only [nmB_kl, hkt] at PU
      have GT := Lib.hid (GH.out.trans G2)
      clear R2 G2
      go_wp2_with fail
      refine PU.mono ?_
      rintro e w3 ⟨rfl, P3⟩
      have PH := Lib.hid (P3.next GT.out)
      clear PU P3
      go_wp2
      go_ret
      exact ⟨rfl, by rw [hkt]; exact PH.out⟩
end
end Go.Proofs.Ytkhlcmponfkccaa.Pk
