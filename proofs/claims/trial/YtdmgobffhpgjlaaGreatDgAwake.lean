/-
  The laws' first look: answers that the document fixes by number.
-/
import Derived.Test.YtdmgobffhpgjlaaGreatDgLit
namespace Go.Proofs.YtdmgobffhpgjlaaGreat.Sl.Dg
open Go.RowKit Go.PlainAid Go.Proofs.YtdmgobffhpgjlaaGreat.Cr
open Go.Proofs.YtdmgobffhpgjlaaGreat.Pk (Bs Fi Dk kl HasD has_new onL onL_some)
set_option linter.unusedVariables false
set_option maxRecDepth 20000
set_option linter.unusedSimpArgs false

def ts2 : List Sp := [tch 1, tch 2]
def ts3 : List Sp := [tch 1, tch 2, tch 3]
theorem ts2_can : ∀ x ∈ ts2, Can x := by
  intro x hx
  simp [ts2] at hx
  rcases hx with rfl | rfl <;> exact tch_can (by decide)
theorem ts3_can : ∀ x ∈ ts3, Can x := by
  intro x hx
  simp [ts3] at hx
  rcases hx with rfl | rfl | rfl <;> exact tch_can (by decide)
theorem ts2_len : (recs ts2).length = 78 := by simp [recs, ts2, tch_len]
theorem ts3_len : (recs ts3).length = 117 := by simp [recs, ts3, tch_len]
theorem ts3_app : recs ts3 = recs ts2 ++ recL (bodyL (tch 3)) := by simp [recs, ts3, ts2]
theorem ts3_cut : (recs ts3).take 83 = recs ts2 ++ (recL (bodyL (tch 3))).take 5 := by
  rw [ts3_app, List.take_append, List.take_of_length_le (by rw [ts2_len]; decide), ts2_len]
theorem ts_reads : Reads (nb ((recsB ts3).take 83)) ts2 78 := by
  rw [nb_take, nb_recs ts3_can, ts3_cut]
  have := reads_recs (xs := ts2) (t := (recL (bodyL (tch 3))).take 5) ts2_can (by rw [rd_cut (tch_can (by decide)) (by rw [tch_len]; decide)]; decide)
  rw [ts2_len] at this
  exact this
theorem ts_on {D : Dk} {N : Int} (h : Mild D ts3 2 65536 N) : (D.offd.on [5]).L = oneD ((recsB ts3).take 83) 83 := by
  have h1 : (recs (ts3.take 2)).length = 78 := ts2_len
  have h2 : (recsB ts3).length = 117 := by rw [recsB_len, ts3_len]
  rw [on_eq, h.l]
  show onL [5] [⟨dN, recsB ts3, (recs (ts3.take 2)).length⟩] = _
  rw [h1, onL_some (f := ⟨dN, recsB ts3, 78⟩) (by simp only; omega), onL]
  simp only [h2]
  rfl
theorem ts_load {D : Dk} {N : Int} (h : Mild D ts3 2 65536 N) : ∃ E, load (D.offd.on [5]) = ((recsB ts3).take 83, 0, E) ∧ Calm E ∧ E.L = oneD ((recsB ts3).take 83) 83 ∧ E.room = 65536 ∧ E.ops ≤ N + 2 := by
  have h1 := ts_on h
  obtain ⟨r1, r2⟩ := on_room D [5]
  have h2 : ((recsB ts3).take 83).length = 83 := by rw [List.length_take, recsB_len, ts3_len]; decide
  refine ⟨_, load_one (on_calm D [5]) h1, (on_calm D [5]).tick 2 _, by simp only; rw [h2], by simp only; rw [r1, h.r], ?_⟩
  have := h.n
  simp only
  omega
theorem ts_rew {E : Dk} {L : Lg} {N : Int} (hc : Calm E) (hL : E.L = oneD ((recsB ts3).take 83) 83) (hr : E.room = 65536) (hn : E.ops ≤ N) : ∃ F, rewL E L [tch 7] = (0, F, ⟨1, 39, 1, false⟩) := by
  have h7 : (recs [tch 7]).length = 39 := by simp [recs, tch_len]
  obtain ⟨k, hk, h1⟩ := repl_one (s := recsB [tch 7]) hc hL (by rw [hr, List.length_take, recsB_len, recsB_len, ts3_len, h7]; decide)
  refine ⟨(repl E (recsB [tch 7])).2, ?_⟩
  rw [rewL_ok (allCan.2 (by intro x hx; simp at hx; subst hx; exact tch_can (by decide))) (by rw [h1]), recsB_len, h7]
  rfl
set_option maxRecDepth 100000 in
set_option maxHeartbeats 8000000 in
theorem awake_any (w : World) : Calls Tryz.prog 4 #[] w fun e w' => e = .returned (.bool true) ∧ Below w.heap.size w w' := by
  have C0 := has_new w (Below.refl _ _) 65536
  have ok1 : Okay (tch 1) := can_okay (tch_can (by decide))
  have ok2 : Okay (tch 2) := can_okay (tch_can (by decide))
  have ok7 : Okay (tch 7) := can_okay (tch_can (by decide))
  go_enter Tryz.func4, Tryz.ntmps4
  go_wp2_with fail
  refine C0.mono ?_
  rintro e w1 ⟨p, rfl, h⟩
  clear C0
  go_wp2_with fail
  refine (open_new h (by decide)).mono ?_
  rintro e w2 ⟨q, g, cap, rfl, _, hg, _⟩
  clear h
  simp only [List.length_nil] at hg ⊢
  go_wp2_with fail
  refine (touch_any 1 _ (by simp)).mono ?_
  rintro e w3 ⟨rfl, G⟩
  replace hg := hg.kept G
  clear G
  go_wp2_with fail
  refine (add_good hg (tch_can (by decide)) (by simp) (by decide) (by decide)).mono ?_
  rintro e w4 ⟨rfl, hg, _⟩
  go_wp2_with fail
  refine (touch_any 2 _ (by simp)).mono ?_
  rintro e w5 ⟨rfl, G⟩
  replace hg := hg.kept G
  clear G
  go_wp2_with fail
  refine (add_good hg (tch_can (by decide)) (by simp) (by decide) (by decide)).mono ?_
  rintro e w6 ⟨rfl, hg, _⟩
  go_wp2_with fail
  refine (sync_good hg (by decide)).mono ?_
  rintro e w7 ⟨rfl, hg, _⟩
  go_wp2_with fail
  refine (touch_any 3 _ (by simp)).mono ?_
  rintro e w8 ⟨rfl, G⟩
  replace hg := hg.kept G
  clear G
  go_wp2_with fail
  refine (add_good hg (tch_can (by decide)) (by simp) (by decide) (by decide)).mono ?_
  rintro e w9 ⟨rfl, hg, _⟩
  obtain ⟨D, h1, h2⟩ : ∃ D, HasD w w9 p D [] ∧ Mild D ts3 2 65536 8 := by
    obtain ⟨D, h1, h2⟩ := hg.is
    exact ⟨D, h1.disk, h2.toMild.up (by decide)⟩
  clear hg
  go_wp2_with fail
  refine (off_has h1).mono ?_
  rintro e w10 ⟨rfl, h, _⟩
  clear h1
  go_wp2_with fail
  refine (on1_has h 5).mono ?_
  rintro e w11 ⟨rfl, h3, _⟩
  clear h
  obtain ⟨r1, r2⟩ := on_room D [5]
  obtain ⟨E, hE, cE, lE, rE, nE⟩ := ts_load h2
  have hn := h2.n
  go_wp2_with fail
  refine (open_any h3 (by omega)).mono ?_
  rintro e w12 (⟨c, _⟩ | ⟨_, q2, v, zs, n, rfl, rd, ok, own, hl, _⟩)
  · rw [hE] at c
    exact absurd rfl c
  rw [hE] at rd hl
  obtain ⟨rfl, rfl⟩ := reads_one ts_reads rd
  have hb : decide (78 < ((recsB ts3).take 83).length) = true := by
    rw [List.length_take, recsB_len, ts3_len]
    rfl
  simp only [hb] at hl
  have sv := owns_sls own ok
  obtain ⟨g2, cap2, rfl⟩ := owns_slice own
  clear own rd ok hb h3 h2
  go_wp2_with fail
  refine (touch_any 1 _ (by simp)).mono ?_
  rintro e w13 ⟨rfl, G⟩
  replace hl := hl.kept G
  replace sv := sv.below G
  clear G
  go_wp2_with fail
  refine (touch_any 2 _ (by simp)).mono ?_
  rintro e w14 ⟨rfl, G⟩
  replace hl := hl.kept G
  replace sv := sv.below G
  clear G
  have sm := made_sls w14 (xs := [tch 1, tch 2]) (by intro x hx; simp at hx; rcases hx with rfl | rfl; exact ok1; exact ok2) (by decide)
  replace hl := hl.alloc (.cells (slsL [tch 1, tch 2]).toArray 39)
  replace sv := sv.below ((Below.refl _ _).alloc (Nat.le_refl _) (.cells (slsL [tch 1, tch 2]).toArray 39))
  have SM := same_any sv sm (by decide) (by decide)
  rw [sameB_yes (show ts2 = [tch 1, tch 2] from rfl)] at SM
  clear sv sm
  go_wp2_with (with_reducible refine wpl_built2 ok1 ok2 ?_ rfl ?_ ?_ ?_; (· kernel_rfl); (· kernel_rfl); (· kernel_rfl))
  refine SM.mono ?_
  rintro e w15 ⟨rfl, G⟩
  clear SM
  replace hl := hl.kept G
  clear G
  go_wp2_with fail
  refine (sick_has hl).mono ?_
  rintro e w16 ⟨rfl, rfl⟩
  go_wp2_with fail
  refine (touch_any 4 _ (by simp)).mono ?_
  rintro e w17 ⟨rfl, G⟩
  replace hl := hl.kept G
  clear G
  have A := add_any hl (by omega) ⟨by simp; decide, by simp, by simp; decide⟩ (tch 4) (can_okay (tch_can (by decide)))
  rw [addL_sick _ rfl] at A
  go_wp2_with fail
  refine A.mono ?_
  rintro e w18 ⟨rfl, hl, _⟩
  clear A
  go_wp2_with fail
  refine (touch_any 7 _ (by simp)).mono ?_
  rintro e w19 ⟨rfl, G⟩
  replace hl := hl.kept G
  clear G
  replace hl := hl.alloc (.cells (slsL [tch 7]).toArray 39)
  have sm := made_sls w19 (xs := [tch 7]) (by intro x hx; simp at hx; rcases hx with rfl; exact ok7) (by decide)
  have RW := rewrite_any hl (by omega) sm (by decide)
  obtain ⟨F, hF⟩ := ts_rew (L := ⟨(ts2.length : Int), ((78 : Nat) : Int), (ts2.length : Int), true⟩) cE lE rE nE
  rw [hF] at RW
  clear sm hF
  go_wp2_with (with_reducible refine wpl_built1 ok7 ?_ rfl ?_ ?_; (· kernel_rfl); (· kernel_rfl))
  refine RW.mono ?_
  rintro e w20 ⟨rfl, hl, _⟩
  clear RW
  go_wp2_with fail
  refine (sick_has hl).mono ?_
  rintro e w21 ⟨rfl, rfl⟩
  go_wp2_with fail
  refine (len_has hl).mono ?_
  rintro e w22 ⟨rfl, rfl⟩
  go_wp2_with fail
  refine (bytes_has hl).mono ?_
  rintro e w23 ⟨rfl, rfl⟩
  go_wp2_with fail
  refine (sure_has hl).mono ?_
  rintro e w24 ⟨rfl, rfl⟩
  go_wp2
  go_ret
  exact ⟨rfl, hl.below⟩
end Go.Proofs.YtdmgobffhpgjlaaGreat.Sl.Dg
