/-
  The document's Read.
-/
import Derived.Test.YtdmgobffhpgjlaaGreatSlRef4
import Derived.Test.YtdmgobffhpgjlaaGreatSlRef5
import Derived.Test.YtdmgobffhpgjlaaGreatSlWritesW

namespace Go.Proofs.YtdmgobffhpgjlaaGreat.Sl
open Go.RowKit Go.PlainAid Go.Proofs.YtdmgobffhpgjlaaGreat.Cr
set_option linter.unusedVariables false
set_option maxRecDepth 20000
set_option linter.unusedSimpArgs false

set_option maxRecDepth 100000 in
set_option maxHeartbeats 2000000 in
theorem rread_few (s : ByteArray) (w : World) (hz : s.size ≤ 1000000) (h : (bl s).length < 6) :
    Calls Tryz.prog 70 #[.string s] w fun e w' => e = .returned (.tuple #[.agg (slV (RD (bl s)).1), .int .i64 (RD (bl s)).2.1, .int .i64 (RD (bl s)).2.2]) ∧ Below w.heap.size w w' := by
  rw [rd_few h]
  have l6 : (s.size : Int) < 6 := by rw [bl_len] at h; omega
  clear h
  obtain ⟨R, e0, st⟩ := ans_start w
  have E0 := Lib.hid e0; have ST := Lib.hid st
  clear e0 st
  go_enter Tryz.func70, Tryz.ntmps70
  go_upto_region 1 with (fail)
  rw [← E0.out]
  obtain ⟨w1, hw1⟩ : ∃ w1, w1 = w.alloc (.cells #[.int .i64 0, .string ⟨#[]⟩, .string ⟨#[]⟩, .int .u8 0, .int .u8 0, .int .u8 0, .int .u8 0, .int .u8 0, .int .u8 0, .int .u8 0, .int .u8 0, .int .u8 0, .int .u8 0, .int .u8 0, .int .u8 0, .int .u8 0, .int .u8 0, .int .u8 0, .int .u8 0, .int .u8 0, .int .u8 0, .int .u8 0, .int .u8 0, .int .u8 0, .int .u8 0, .int .u8 0, .int .u8 0, .int .u8 0, .int .u8 0, .int .u8 0, .int .u8 0, .int .u8 0, .int .u8 0, .int .u8 0, .int .u8 0, .string ⟨#[]⟩, .int .i64 0, .int .i64 0] 39) := ⟨_, rfl⟩
  obtain ⟨hr, hb⟩ := ST.out _ hw1
  rw [← hw1]
  clear hw1 ST
  have S := zero_stores hr
  have R1 := hr.row (slV Sp.zero)
  have F1 := below_row (B := R) (cs := slV Sp.zero) hb (by have := E0.out; omega)
  generalize w1.setRow R (slV Sp.zero) = w3 at S R1 F1
  go_wp2_with (refine wpl_store S rfl rfl rfl rfl rfl ?_)
  exact bodyPost_ret (results_three Tryz.results70 _ rfl rfl rfl (sl_loads R1 zeros_dig.len)) rfl ⟨rfl, F1⟩
set_option maxRecDepth 100000 in
set_option maxHeartbeats 2000000 in
theorem rread_zero (s : ByteArray) (w : World) (hz : s.size ≤ 1000000) (h : ¬ (bl s).length < 6) (h1 : len2 (bl s) = 0) :
    Calls Tryz.prog 70 #[.string s] w fun e w' => e = .returned (.tuple #[.agg (slV (RD (bl s)).1), .int .i64 (RD (bl s)).2.1, .int .i64 (RD (bl s)).2.2]) ∧ Below w.heap.size w w' := by
  rw [rd_none h (.inl h1)]
  have l6 : ¬ (s.size : Int) < 6 := by rw [bl_len] at h; omega
  have s2 : 2 ≤ s.size := by omega
  have o1 := two_bytes s2
  have g0 : ∀ (h : 0 < s.size), ((s[0]'h).toNat : Int) = (bn s 0 : Int) := fun h => (get_bt s 0 h).trans (bn_bt s 0).symm
  have g1 : ∀ (h : 1 < s.size), ((s[1]'h).toNat : Int) = (bn s 1 : Int) := fun h => (get_bt s 1 h).trans (bn_bt s 1).symm
  have b0 : (bn s 0 : Int) ≤ 255 := by rw [bn_bt]; exact bt_le s 0
  have b1 : (bn s 1 : Int) ≤ 255 := by rw [bn_bt]; exact bt_le s 1
  have i0 : (0 : Int) < (s.size : Int) := by omega
  have i1 : (1 : Int) < (s.size : Int) := by omega
  obtain ⟨n, hn⟩ : ∃ n, len2 (bl s) = n := ⟨_, rfl⟩
  rw [hn] at o1 h1
  have HN := Lib.hid hn
  clear hn
  subst h1

  obtain ⟨R, e0, st⟩ := ans_start w
  have E0 := Lib.hid e0; have ST := Lib.hid st
  clear e0 st
  go_enter Tryz.func70, Tryz.ntmps70
  go_upto_region 1 with (fail)
  rw [← E0.out]
  obtain ⟨w1, hw1⟩ : ∃ w1, w1 = w.alloc (.cells #[.int .i64 0, .string ⟨#[]⟩, .string ⟨#[]⟩, .int .u8 0, .int .u8 0, .int .u8 0, .int .u8 0, .int .u8 0, .int .u8 0, .int .u8 0, .int .u8 0, .int .u8 0, .int .u8 0, .int .u8 0, .int .u8 0, .int .u8 0, .int .u8 0, .int .u8 0, .int .u8 0, .int .u8 0, .int .u8 0, .int .u8 0, .int .u8 0, .int .u8 0, .int .u8 0, .int .u8 0, .int .u8 0, .int .u8 0, .int .u8 0, .int .u8 0, .int .u8 0, .int .u8 0, .int .u8 0, .int .u8 0, .int .u8 0, .string ⟨#[]⟩, .int .i64 0, .int .i64 0] 39) := ⟨_, rfl⟩
  obtain ⟨hr, hb⟩ := ST.out _ hw1
  rw [← hw1]
  clear hw1 ST
  go_upto_region 3 with (fail)
  go_quiet (fail)
  have G := below_drewN (Below.refl w1.heap.size w1) nq
  replace hr := hr.old G
  replace hb := hb.trans (G.mono hb.size)
  clear G
  generalize w1.drewN nq = w2 at hr hb ⊢
  have S := zero_stores hr
  have R1 := hr.row (slV Sp.zero)
  have F1 := below_row (B := R) (cs := slV Sp.zero) hb (by have := E0.out; omega)
  generalize w2.setRow R (slV Sp.zero) = w3 at S R1 F1
  go_wp2_with (refine wpl_store S rfl rfl rfl rfl rfl ?_)
  exact bodyPost_ret (results_three Tryz.results70 _ rfl rfl rfl (sl_loads R1 zeros_dig.len)) rfl ⟨rfl, F1⟩
set_option maxRecDepth 100000 in
set_option maxHeartbeats 2000000 in
theorem rread_big (s : ByteArray) (w : World) (hz : s.size ≤ 1000000) (h : ¬ (bl s).length < 6) (h1 : 1024 < len2 (bl s)) :
    Calls Tryz.prog 70 #[.string s] w fun e w' => e = .returned (.tuple #[.agg (slV (RD (bl s)).1), .int .i64 (RD (bl s)).2.1, .int .i64 (RD (bl s)).2.2]) ∧ Below w.heap.size w w' := by
  rw [rd_none h (.inr h1)]
  have l6 : ¬ (s.size : Int) < 6 := by rw [bl_len] at h; omega
  have s2 : 2 ≤ s.size := by omega
  have o1 := two_bytes s2
  have g0 : ∀ (h : 0 < s.size), ((s[0]'h).toNat : Int) = (bn s 0 : Int) := fun h => (get_bt s 0 h).trans (bn_bt s 0).symm
  have g1 : ∀ (h : 1 < s.size), ((s[1]'h).toNat : Int) = (bn s 1 : Int) := fun h => (get_bt s 1 h).trans (bn_bt s 1).symm
  have b0 : (bn s 0 : Int) ≤ 255 := by rw [bn_bt]; exact bt_le s 0
  have b1 : (bn s 1 : Int) ≤ 255 := by rw [bn_bt]; exact bt_le s 1
  have i0 : (0 : Int) < (s.size : Int) := by omega
  have i1 : (1 : Int) < (s.size : Int) := by omega
  obtain ⟨n, hn⟩ : ∃ n, len2 (bl s) = n := ⟨_, rfl⟩
  rw [hn] at o1 h1
  have HN := Lib.hid hn
  clear hn
  have n0 : ((n : Int) == 0) = false := by rw [beq_eq_false_iff_ne]; omega
  have n1 : (1024 : Int) < (n : Int) := by omega

  obtain ⟨R, e0, st⟩ := ans_start w
  have E0 := Lib.hid e0; have ST := Lib.hid st
  clear e0 st
  go_enter Tryz.func70, Tryz.ntmps70
  go_upto_region 1 with (fail)
  rw [← E0.out]
  obtain ⟨w1, hw1⟩ : ∃ w1, w1 = w.alloc (.cells #[.int .i64 0, .string ⟨#[]⟩, .string ⟨#[]⟩, .int .u8 0, .int .u8 0, .int .u8 0, .int .u8 0, .int .u8 0, .int .u8 0, .int .u8 0, .int .u8 0, .int .u8 0, .int .u8 0, .int .u8 0, .int .u8 0, .int .u8 0, .int .u8 0, .int .u8 0, .int .u8 0, .int .u8 0, .int .u8 0, .int .u8 0, .int .u8 0, .int .u8 0, .int .u8 0, .int .u8 0, .int .u8 0, .int .u8 0, .int .u8 0, .int .u8 0, .int .u8 0, .int .u8 0, .int .u8 0, .int .u8 0, .int .u8 0, .string ⟨#[]⟩, .int .i64 0, .int .i64 0] 39) := ⟨_, rfl⟩
  obtain ⟨hr, hb⟩ := ST.out _ hw1
  rw [← hw1]
  clear hw1 ST
  go_upto_region 3 with (fail)
  go_quiet (fail)
  have G := below_drewN (Below.refl w1.heap.size w1) nq
  replace hr := hr.old G
  replace hb := hb.trans (G.mono hb.size)
  clear G
  generalize w1.drewN nq = w2 at hr hb ⊢
  have S := zero_stores hr
  have R1 := hr.row (slV Sp.zero)
  have F1 := below_row (B := R) (cs := slV Sp.zero) hb (by have := E0.out; omega)
  generalize w2.setRow R (slV Sp.zero) = w3 at S R1 F1
  go_wp2_with (refine wpl_store S rfl rfl rfl rfl rfl ?_)
  exact bodyPost_ret (results_three Tryz.results70 _ rfl rfl rfl (sl_loads R1 zeros_dig.len)) rfl ⟨rfl, F1⟩
set_option maxRecDepth 100000 in
set_option maxHeartbeats 2000000 in
theorem rread_short (s : ByteArray) (w : World) (hz : s.size ≤ 1000000) (h : ¬ (bl s).length < 6) (h1 : ¬ (len2 (bl s) = 0 ∨ 1024 < len2 (bl s))) (h2 : (bl s).length < 6 + len2 (bl s)) :
    Calls Tryz.prog 70 #[.string s] w fun e w' => e = .returned (.tuple #[.agg (slV (RD (bl s)).1), .int .i64 (RD (bl s)).2.1, .int .i64 (RD (bl s)).2.2]) ∧ Below w.heap.size w w' := by
  rw [rd_short h h1 h2]
  have l6 : ¬ (s.size : Int) < 6 := by rw [bl_len] at h; omega
  have s2 : 2 ≤ s.size := by omega
  have o1 := two_bytes s2
  have g0 : ∀ (h : 0 < s.size), ((s[0]'h).toNat : Int) = (bn s 0 : Int) := fun h => (get_bt s 0 h).trans (bn_bt s 0).symm
  have g1 : ∀ (h : 1 < s.size), ((s[1]'h).toNat : Int) = (bn s 1 : Int) := fun h => (get_bt s 1 h).trans (bn_bt s 1).symm
  have b0 : (bn s 0 : Int) ≤ 255 := by rw [bn_bt]; exact bt_le s 0
  have b1 : (bn s 1 : Int) ≤ 255 := by rw [bn_bt]; exact bt_le s 1
  have i0 : (0 : Int) < (s.size : Int) := by omega
  have i1 : (1 : Int) < (s.size : Int) := by omega
  obtain ⟨n, hn⟩ : ∃ n, len2 (bl s) = n := ⟨_, rfl⟩
  rw [hn] at o1 h1 h2
  have HN := Lib.hid hn
  clear hn
  have n0 : ((n : Int) == 0) = false := by rw [beq_eq_false_iff_ne]; omega
  have n1 : ¬ (1024 : Int) < (n : Int) := by omega
  have n2 : (s.size : Int) - 6 < (n : Int) := by rw [bl_len] at h2; omega

  obtain ⟨R, e0, st⟩ := ans_start w
  have E0 := Lib.hid e0; have ST := Lib.hid st
  clear e0 st
  go_enter Tryz.func70, Tryz.ntmps70
  go_upto_region 1 with (fail)
  rw [← E0.out]
  obtain ⟨w1, hw1⟩ : ∃ w1, w1 = w.alloc (.cells #[.int .i64 0, .string ⟨#[]⟩, .string ⟨#[]⟩, .int .u8 0, .int .u8 0, .int .u8 0, .int .u8 0, .int .u8 0, .int .u8 0, .int .u8 0, .int .u8 0, .int .u8 0, .int .u8 0, .int .u8 0, .int .u8 0, .int .u8 0, .int .u8 0, .int .u8 0, .int .u8 0, .int .u8 0, .int .u8 0, .int .u8 0, .int .u8 0, .int .u8 0, .int .u8 0, .int .u8 0, .int .u8 0, .int .u8 0, .int .u8 0, .int .u8 0, .int .u8 0, .int .u8 0, .int .u8 0, .int .u8 0, .int .u8 0, .string ⟨#[]⟩, .int .i64 0, .int .i64 0] 39) := ⟨_, rfl⟩
  obtain ⟨hr, hb⟩ := ST.out _ hw1
  rw [← hw1]
  clear hw1 ST
  go_upto_region 3 with (fail)
  go_quiet (fail)
  have G := below_drewN (Below.refl w1.heap.size w1) nq
  replace hr := hr.old G
  replace hb := hb.trans (G.mono hb.size)
  clear G
  generalize w1.drewN nq = w2 at hr hb ⊢
  have S := zero_stores hr
  have R1 := hr.row (slV Sp.zero)
  have F1 := below_row (B := R) (cs := slV Sp.zero) hb (by have := E0.out; omega)
  generalize w2.setRow R (slV Sp.zero) = w3 at S R1 F1
  go_wp2_with (refine wpl_store S rfl rfl rfl rfl rfl ?_)
  exact bodyPost_ret (results_three Tryz.results70 _ rfl rfl rfl (sl_loads R1 zeros_dig.len)) rfl ⟨rfl, F1⟩
set_option maxRecDepth 100000 in
set_option maxHeartbeats 2000000 in
theorem rread_sum (s : ByteArray) (w : World) (hz : s.size ≤ 1000000) (h : ¬ (bl s).length < 6) (h1 : ¬ (len2 (bl s) = 0 ∨ 1024 < len2 (bl s))) (h2 : ¬ (bl s).length < 6 + len2 (bl s)) (h3 : ¬ ((bl s).drop 2).take 4 = le 4 (mor 0 ((bl s).take 2 ++ bodyOf (bl s)))) :
    Calls Tryz.prog 70 #[.string s] w fun e w' => e = .returned (.tuple #[.agg (slV (RD (bl s)).1), .int .i64 (RD (bl s)).2.1, .int .i64 (RD (bl s)).2.2]) ∧ Below w.heap.size w w' := by
  rw [rd_sum h h1 h2 h3]
  have hfr := frame_is (bl_lt s) h h2
  have hbt := body_text s (by rw [bl_len] at h2; omega)
  have l6 : ¬ (s.size : Int) < 6 := by rw [bl_len] at h; omega
  have s2 : 2 ≤ s.size := by omega
  have o1 := two_bytes s2
  have g0 : ∀ (h : 0 < s.size), ((s[0]'h).toNat : Int) = (bn s 0 : Int) := fun h => (get_bt s 0 h).trans (bn_bt s 0).symm
  have g1 : ∀ (h : 1 < s.size), ((s[1]'h).toNat : Int) = (bn s 1 : Int) := fun h => (get_bt s 1 h).trans (bn_bt s 1).symm
  have b0 : (bn s 0 : Int) ≤ 255 := by rw [bn_bt]; exact bt_le s 0
  have b1 : (bn s 1 : Int) ≤ 255 := by rw [bn_bt]; exact bt_le s 1
  have i0 : (0 : Int) < (s.size : Int) := by omega
  have i1 : (1 : Int) < (s.size : Int) := by omega
  obtain ⟨n, hn⟩ : ∃ n, len2 (bl s) = n := ⟨_, rfl⟩
  rw [hn] at o1 h1 h2 hfr hbt
  have HN := Lib.hid hn
  clear hn
  have n0 : ((n : Int) == 0) = false := by rw [beq_eq_false_iff_ne]; omega
  have n1 : ¬ (1024 : Int) < (n : Int) := by omega
  have n2 : ¬ (s.size : Int) - 6 < (n : Int) := by rw [bl_len] at h2; omega
  have n3 : (6 : Int) + (n : Int) ≤ (s.size : Int) := by omega
  have n4 : (6 : Int) ≤ (6 : Int) + (n : Int) := by omega
  have n5 : ((6 : Int) + (n : Int)).toNat = 6 + n := by omega
  obtain ⟨b, hbe⟩ : ∃ b, b = s.extract 6 (6 + n) := ⟨_, rfl⟩
  obtain ⟨pre, hpe⟩ : ∃ p, p = s.extract 0 (6 + n) := ⟨_, rfl⟩
  have hbz : b.size ≤ 1000000 := by rw [hbe, ByteArray.size_extract]; omega
  have hbs : b.size = n := by rw [hbe, ByteArray.size_extract]; omega
  rw [← hbe] at hbt
  obtain ⟨fb, hfb⟩ : ∃ f, f = strOf (recL (bl b)) := ⟨_, rfl⟩
  have HFB := Lib.hid hfb
  have hbl : bl fb = recL (bl b) := by rw [hfb]; exact bl_strOf (rec_lt (bl_lt b))
  have hpl : bl pre = (bl s).take (6 + n) := by rw [hpe, bl_extract, List.drop_zero]; rfl
  have hq : fb = pre ↔ recL (bodyOf (bl s)) = (bl s).take (6 + n) := by
    rw [← hbt, ← hbl, ← hpl]
    exact ⟨fun c => by rw [c], fun c => bl_inj c⟩
  have e1 : (fb.toList == pre.toList) = false := by
    rw [Bool.eq_false_iff, ne_eq, toList_eq_iff, hq, hfr]; exact h3
  have e2 : (fb.toList != pre.toList) = true := by show (!(fb.toList == pre.toList)) = _; rw [e1]; rfl
  have HB := Lib.hid hbe.symm; have HP := Lib.hid hpe.symm; have HBT := Lib.hid hbt; have HBS := Lib.hid hbs
  clear hbe hpe hfb hbl hpl hq hbt hfr hbs

  obtain ⟨R, e0, st⟩ := ans_start w
  have E0 := Lib.hid e0; have ST := Lib.hid st
  clear e0 st
  go_enter Tryz.func70, Tryz.ntmps70
  go_upto_region 1 with (fail)
  rw [← E0.out]
  obtain ⟨w1, hw1⟩ : ∃ w1, w1 = w.alloc (.cells #[.int .i64 0, .string ⟨#[]⟩, .string ⟨#[]⟩, .int .u8 0, .int .u8 0, .int .u8 0, .int .u8 0, .int .u8 0, .int .u8 0, .int .u8 0, .int .u8 0, .int .u8 0, .int .u8 0, .int .u8 0, .int .u8 0, .int .u8 0, .int .u8 0, .int .u8 0, .int .u8 0, .int .u8 0, .int .u8 0, .int .u8 0, .int .u8 0, .int .u8 0, .int .u8 0, .int .u8 0, .int .u8 0, .int .u8 0, .int .u8 0, .int .u8 0, .int .u8 0, .int .u8 0, .int .u8 0, .int .u8 0, .int .u8 0, .string ⟨#[]⟩, .int .i64 0, .int .i64 0] 39) := ⟨_, rfl⟩
  obtain ⟨hr, hb⟩ := ST.out _ hw1
  rw [← hw1]
  clear hw1 ST
  go_upto_region 3 with (fail)
  go_quiet (fail)
  have G := below_drewN (Below.refl w1.heap.size w1) nq
  replace hr := hr.old G
  replace hb := hb.trans (G.mono hb.size)
  clear G
  generalize w1.drewN nq = w2 at hr hb ⊢
  have J0 : Sw w w2 R Sp.zero := ⟨hr, hb⟩
  clear hr hb
  go_upto_region 9 with (fail)
  rw [HB.out]
  have pe := HP.out
  refine wp_region_held (S := fun z => Sw w z R Sp.zero) (by kernel_rfl) ?_
  change wpAnyH _ _ _ _ _ _ _ _ w2.drew
  replace J0 := J0.drew
  generalize w2.drew = w4 at J0 ⊢
  refine held_take 0 (.string b) rfl (by kernel_rfl) (by kernel_rfl) (by kernel_rfl) (fun _ _ _ h => h) (Or.inl ⟨by rfl, fun x j => by go_simp⟩) J0 (fun K hK => ?_)
  go_simp
  refine hK _ _ ?_
  clear hK K
  refine held_take 2 (.string s) rfl (by kernel_rfl) (by kernel_rfl) (by kernel_rfl) (fun _ _ _ h => h) (Or.inl ⟨by rfl, fun x j => by go_simp⟩) J0 (fun K hK => ?_)
  go_simp
  refine hK _ _ ?_
  clear hK K
  refine held_take 3 (.int .i64 (n : Int)) rfl (by kernel_rfl) (by kernel_rfl) (by kernel_rfl) (fun _ _ _ h => h) (Or.inl ⟨by rfl, fun x j => by go_simp⟩) J0 (fun K hK => ?_)
  go_simp
  refine hK _ _ ?_
  clear hK K
  refine held_take 4 (.int .i64 (6 + (n : Int))) rfl (by kernel_rfl) (by kernel_rfl) (by kernel_rfl) (fun _ _ _ h => h) (Or.inl ⟨by rfl, fun x j => by go_simp; rw [i64_is]; unfold wrap64; omega⟩) J0 (fun K hK => ?_)
  go_simp
  refine hK _ _ ?_
  clear hK K
  refine held_take 5 (.string pre) rfl (by kernel_rfl) (by kernel_rfl) (by kernel_rfl) (fun _ _ _ h => h) (Or.inl ⟨by rfl, fun x j => by go_simp; intro c; omega⟩) J0 (fun K hK => ?_)
  go_simp
  refine hK _ _ ?_
  clear hK K
  refine held_one 1 (by kernel_rfl) (fun K hK => wpOp_in rfl rfl ?_)
  go_simp
  refine (framed_any b _ hbz).mono ?_
  rintro e v1 ⟨rfl, hg⟩
  rw [← HFB.out]
  have J1 := J0.below hg
  refine hK _ _ J1 ?_
  clear hg J0
  clear hK K
  refine held_take 6 (.bool true) rfl (by kernel_rfl) (by kernel_rfl) (by kernel_rfl) (fun _ _ _ h => h) (Or.inl ⟨by rfl, fun x j => by go_simp⟩) J1 (fun K hK => ?_)
  go_simp
  refine hK _ _ ?_
  clear hK K
  refine wpAnyH_done (by kernel_rfl) ?_ _
  clear pe
  have hr := J1.box; have hb := J1.bel
  clear J1
  have S := zero_stores hr
  have R1 := hr.row (slV Sp.zero)
  have F1 := below_row (B := R) (cs := slV Sp.zero) hb (by have := E0.out; omega)
  generalize v1.setRow R (slV Sp.zero) = w3 at S R1 F1
  go_wp2_with (refine wpl_store S rfl rfl rfl rfl rfl ?_)
  exact bodyPost_ret (results_three Tryz.results70 _ rfl rfl rfl (sl_loads R1 zeros_dig.len)) rfl ⟨rfl, F1⟩
set_option maxRecDepth 100000 in
set_option maxHeartbeats 2000000 in
theorem rread_form (s : ByteArray) (w : World) (hz : s.size ≤ 1000000) (h : ¬ (bl s).length < 6) (h1 : ¬ (len2 (bl s) = 0 ∨ 1024 < len2 (bl s))) (h2 : ¬ (bl s).length < 6 + len2 (bl s)) (h3 : ((bl s).drop 2).take 4 = le 4 (mor 0 ((bl s).take 2 ++ bodyOf (bl s)))) (hx : ∀ x, Can x → bodyL x ≠ bodyOf (bl s)) :
    Calls Tryz.prog 70 #[.string s] w fun e w' => e = .returned (.tuple #[.agg (slV (RD (bl s)).1), .int .i64 (RD (bl s)).2.1, .int .i64 (RD (bl s)).2.2]) ∧ Below w.heap.size w w' := by
  rw [rd_form h h1 h2 h3 hx]
  have hfr := frame_is (bl_lt s) h h2
  have hbt := body_text s (by rw [bl_len] at h2; omega)
  have l6 : ¬ (s.size : Int) < 6 := by rw [bl_len] at h; omega
  have s2 : 2 ≤ s.size := by omega
  have o1 := two_bytes s2
  have g0 : ∀ (h : 0 < s.size), ((s[0]'h).toNat : Int) = (bn s 0 : Int) := fun h => (get_bt s 0 h).trans (bn_bt s 0).symm
  have g1 : ∀ (h : 1 < s.size), ((s[1]'h).toNat : Int) = (bn s 1 : Int) := fun h => (get_bt s 1 h).trans (bn_bt s 1).symm
  have b0 : (bn s 0 : Int) ≤ 255 := by rw [bn_bt]; exact bt_le s 0
  have b1 : (bn s 1 : Int) ≤ 255 := by rw [bn_bt]; exact bt_le s 1
  have i0 : (0 : Int) < (s.size : Int) := by omega
  have i1 : (1 : Int) < (s.size : Int) := by omega
  obtain ⟨n, hn⟩ : ∃ n, len2 (bl s) = n := ⟨_, rfl⟩
  rw [hn] at o1 h1 h2 hfr hbt
  have HN := Lib.hid hn
  clear hn
  have n0 : ((n : Int) == 0) = false := by rw [beq_eq_false_iff_ne]; omega
  have n1 : ¬ (1024 : Int) < (n : Int) := by omega
  have n2 : ¬ (s.size : Int) - 6 < (n : Int) := by rw [bl_len] at h2; omega
  have n3 : (6 : Int) + (n : Int) ≤ (s.size : Int) := by omega
  have n4 : (6 : Int) ≤ (6 : Int) + (n : Int) := by omega
  have n5 : ((6 : Int) + (n : Int)).toNat = 6 + n := by omega
  obtain ⟨b, hbe⟩ : ∃ b, b = s.extract 6 (6 + n) := ⟨_, rfl⟩
  obtain ⟨pre, hpe⟩ : ∃ p, p = s.extract 0 (6 + n) := ⟨_, rfl⟩
  have hbz : b.size ≤ 1000000 := by rw [hbe, ByteArray.size_extract]; omega
  have hbs : b.size = n := by rw [hbe, ByteArray.size_extract]; omega
  rw [← hbe] at hbt
  obtain ⟨fb, hfb⟩ : ∃ f, f = strOf (recL (bl b)) := ⟨_, rfl⟩
  have HFB := Lib.hid hfb
  have hbl : bl fb = recL (bl b) := by rw [hfb]; exact bl_strOf (rec_lt (bl_lt b))
  have hpl : bl pre = (bl s).take (6 + n) := by rw [hpe, bl_extract, List.drop_zero]; rfl
  have hq : fb = pre ↔ recL (bodyOf (bl s)) = (bl s).take (6 + n) := by
    rw [← hbt, ← hbl, ← hpl]
    exact ⟨fun c => by rw [c], fun c => bl_inj c⟩
  have e1 : (fb.toList == pre.toList) = true := by
    rw [toList_eq_iff, hq, hfr]; exact h3
  have e2 : (fb.toList != pre.toList) = false := by show (!(fb.toList == pre.toList)) = _; rw [e1]; rfl
  have HB := Lib.hid hbe.symm; have HP := Lib.hid hpe.symm; have HBT := Lib.hid hbt; have HBS := Lib.hid hbs
  clear hbe hpe hfb hbl hpl hq hbt hfr hbs

  obtain ⟨R, e0, st⟩ := ans_start w
  have E0 := Lib.hid e0; have ST := Lib.hid st
  clear e0 st
  go_enter Tryz.func70, Tryz.ntmps70
  go_upto_region 1 with (fail)
  rw [← E0.out]
  obtain ⟨w1, hw1⟩ : ∃ w1, w1 = w.alloc (.cells #[.int .i64 0, .string ⟨#[]⟩, .string ⟨#[]⟩, .int .u8 0, .int .u8 0, .int .u8 0, .int .u8 0, .int .u8 0, .int .u8 0, .int .u8 0, .int .u8 0, .int .u8 0, .int .u8 0, .int .u8 0, .int .u8 0, .int .u8 0, .int .u8 0, .int .u8 0, .int .u8 0, .int .u8 0, .int .u8 0, .int .u8 0, .int .u8 0, .int .u8 0, .int .u8 0, .int .u8 0, .int .u8 0, .int .u8 0, .int .u8 0, .int .u8 0, .int .u8 0, .int .u8 0, .int .u8 0, .int .u8 0, .int .u8 0, .string ⟨#[]⟩, .int .i64 0, .int .i64 0] 39) := ⟨_, rfl⟩
  obtain ⟨hr, hb⟩ := ST.out _ hw1
  rw [← hw1]
  clear hw1 ST
  go_upto_region 3 with (fail)
  go_quiet (fail)
  have G := below_drewN (Below.refl w1.heap.size w1) nq
  replace hr := hr.old G
  replace hb := hb.trans (G.mono hb.size)
  clear G
  generalize w1.drewN nq = w2 at hr hb ⊢
  have J0 : Sw w w2 R Sp.zero := ⟨hr, hb⟩
  clear hr hb
  go_upto_region 9 with (fail)
  rw [HB.out]
  have pe := HP.out
  refine wp_region_held (S := fun z => Sw w z R Sp.zero) (by kernel_rfl) ?_
  change wpAnyH _ _ _ _ _ _ _ _ w2.drew
  replace J0 := J0.drew
  generalize w2.drew = w4 at J0 ⊢
  refine held_take 0 (.string b) rfl (by kernel_rfl) (by kernel_rfl) (by kernel_rfl) (fun _ _ _ h => h) (Or.inl ⟨by rfl, fun x j => by go_simp⟩) J0 (fun K hK => ?_)
  go_simp
  refine hK _ _ ?_
  clear hK K
  refine held_take 2 (.string s) rfl (by kernel_rfl) (by kernel_rfl) (by kernel_rfl) (fun _ _ _ h => h) (Or.inl ⟨by rfl, fun x j => by go_simp⟩) J0 (fun K hK => ?_)
  go_simp
  refine hK _ _ ?_
  clear hK K
  refine held_take 3 (.int .i64 (n : Int)) rfl (by kernel_rfl) (by kernel_rfl) (by kernel_rfl) (fun _ _ _ h => h) (Or.inl ⟨by rfl, fun x j => by go_simp⟩) J0 (fun K hK => ?_)
  go_simp
  refine hK _ _ ?_
  clear hK K
  refine held_take 4 (.int .i64 (6 + (n : Int))) rfl (by kernel_rfl) (by kernel_rfl) (by kernel_rfl) (fun _ _ _ h => h) (Or.inl ⟨by rfl, fun x j => by go_simp; rw [i64_is]; unfold wrap64; omega⟩) J0 (fun K hK => ?_)
  go_simp
  refine hK _ _ ?_
  clear hK K
  refine held_take 5 (.string pre) rfl (by kernel_rfl) (by kernel_rfl) (by kernel_rfl) (fun _ _ _ h => h) (Or.inl ⟨by rfl, fun x j => by go_simp; intro c; omega⟩) J0 (fun K hK => ?_)
  go_simp
  refine hK _ _ ?_
  clear hK K
  refine held_one 1 (by kernel_rfl) (fun K hK => wpOp_in rfl rfl ?_)
  go_simp
  refine (framed_any b _ hbz).mono ?_
  rintro e v1 ⟨rfl, hg⟩
  rw [← HFB.out]
  have J1 := J0.below hg
  refine hK _ _ J1 ?_
  clear hg J0
  clear hK K
  refine held_take 6 (.bool false) rfl (by kernel_rfl) (by kernel_rfl) (by kernel_rfl) (fun _ _ _ h => h) (Or.inl ⟨by rfl, fun x j => by go_simp⟩) J1 (fun K hK => ?_)
  go_simp
  refine hK _ _ ?_
  clear hK K
  refine wpAnyH_done (by kernel_rfl) ?_ _
  clear pe
  have E0' : w.heap.size ≤ R := by have := E0.out; omega
  go_wp2_with fail
  refine (rparse_any b _ hbz).mono ?_
  rintro e v2 ⟨hp, G⟩
  have J2 := J1.below G
  have he : e = .returned (.tuple #[.agg (slV Sp.zero), .bool false]) := by
    rcases hp with ⟨c1, c2, _⟩ | ⟨_, e'⟩
    · exact absurd ((ps_inv (by have := HBS.out; omega) c1).symm.trans HBT.out) (hx _ c2)
    · exact e'
  subst he
  clear hp G J1
  have xd : Sp.zero.dig.length = 32 := zeros_dig.len
  obtain ⟨w6, S6, hy, G6, Z6⟩ := x_keep v2 xd
  have J3 := J2.below G6
  clear G6 Z6 J2
  go_upto_region 12 with (refine wpl_store S6 rfl rfl rfl rfl rfl ?_)
  clear S6
  generalize v2.heap.size = Y at hy ⊢
  have LY := sl_loads hy xd
  have S := sl_stores J3.box zeros_dig.len (y := Sp.zero) xd
  have R1 := J3.box.row (slV Sp.zero)
  have F1 := below_row (B := R) (cs := slV Sp.zero) J3.bel E0'
  generalize w6.setRow R (slV Sp.zero) = w7 at S R1 F1
  go_wp2_with (first | refine wpl_load LY rfl rfl rfl ?_ | refine wpl_store S rfl rfl rfl rfl rfl ?_)
  exact bodyPost_ret (results_three Tryz.results70 _ rfl rfl rfl (sl_loads R1 xd)) rfl ⟨rfl, F1⟩
set_option maxRecDepth 100000 in
set_option maxHeartbeats 2000000 in
theorem rread_yes (s : ByteArray) (w : World) (hz : s.size ≤ 1000000) (h : ¬ (bl s).length < 6) (h1 : ¬ (len2 (bl s) = 0 ∨ 1024 < len2 (bl s))) (h2 : ¬ (bl s).length < 6 + len2 (bl s)) (h3 : ((bl s).drop 2).take 4 = le 4 (mor 0 ((bl s).take 2 ++ bodyOf (bl s)))) {x0 : Sp} (hx : Can x0) (hxb : bodyL x0 = bodyOf (bl s)) :
    Calls Tryz.prog 70 #[.string s] w fun e w' => e = .returned (.tuple #[.agg (slV (RD (bl s)).1), .int .i64 (RD (bl s)).2.1, .int .i64 (RD (bl s)).2.2]) ∧ Below w.heap.size w w' := by
  rw [rd_yes h h1 h2 h3 hx hxb]
  have hfr := frame_is (bl_lt s) h h2
  have hbt := body_text s (by rw [bl_len] at h2; omega)
  have l6 : ¬ (s.size : Int) < 6 := by rw [bl_len] at h; omega
  have s2 : 2 ≤ s.size := by omega
  have o1 := two_bytes s2
  have g0 : ∀ (h : 0 < s.size), ((s[0]'h).toNat : Int) = (bn s 0 : Int) := fun h => (get_bt s 0 h).trans (bn_bt s 0).symm
  have g1 : ∀ (h : 1 < s.size), ((s[1]'h).toNat : Int) = (bn s 1 : Int) := fun h => (get_bt s 1 h).trans (bn_bt s 1).symm
  have b0 : (bn s 0 : Int) ≤ 255 := by rw [bn_bt]; exact bt_le s 0
  have b1 : (bn s 1 : Int) ≤ 255 := by rw [bn_bt]; exact bt_le s 1
  have i0 : (0 : Int) < (s.size : Int) := by omega
  have i1 : (1 : Int) < (s.size : Int) := by omega
  obtain ⟨n, hn⟩ : ∃ n, len2 (bl s) = n := ⟨_, rfl⟩
  rw [hn] at o1 h1 h2 hfr hbt ⊢
  have HN := Lib.hid hn
  clear hn
  have n0 : ((n : Int) == 0) = false := by rw [beq_eq_false_iff_ne]; omega
  have n1 : ¬ (1024 : Int) < (n : Int) := by omega
  have n2 : ¬ (s.size : Int) - 6 < (n : Int) := by rw [bl_len] at h2; omega
  have n3 : (6 : Int) + (n : Int) ≤ (s.size : Int) := by omega
  have n4 : (6 : Int) ≤ (6 : Int) + (n : Int) := by omega
  have n5 : ((6 : Int) + (n : Int)).toNat = 6 + n := by omega
  obtain ⟨b, hbe⟩ : ∃ b, b = s.extract 6 (6 + n) := ⟨_, rfl⟩
  obtain ⟨pre, hpe⟩ : ∃ p, p = s.extract 0 (6 + n) := ⟨_, rfl⟩
  have hbz : b.size ≤ 1000000 := by rw [hbe, ByteArray.size_extract]; omega
  have hbs : b.size = n := by rw [hbe, ByteArray.size_extract]; omega
  rw [← hbe] at hbt
  obtain ⟨fb, hfb⟩ : ∃ f, f = strOf (recL (bl b)) := ⟨_, rfl⟩
  have HFB := Lib.hid hfb
  have hbl : bl fb = recL (bl b) := by rw [hfb]; exact bl_strOf (rec_lt (bl_lt b))
  have hpl : bl pre = (bl s).take (6 + n) := by rw [hpe, bl_extract, List.drop_zero]; rfl
  have hq : fb = pre ↔ recL (bodyOf (bl s)) = (bl s).take (6 + n) := by
    rw [← hbt, ← hbl, ← hpl]
    exact ⟨fun c => by rw [c], fun c => bl_inj c⟩
  have e1 : (fb.toList == pre.toList) = true := by
    rw [toList_eq_iff, hq, hfr]; exact h3
  have e2 : (fb.toList != pre.toList) = false := by show (!(fb.toList == pre.toList)) = _; rw [e1]; rfl
  have HB := Lib.hid hbe.symm; have HP := Lib.hid hpe.symm; have HBT := Lib.hid hbt; have HBS := Lib.hid hbs
  clear hbe hpe hfb hbl hpl hq hbt hfr hbs

  obtain ⟨R, e0, st⟩ := ans_start w
  have E0 := Lib.hid e0; have ST := Lib.hid st
  clear e0 st
  go_enter Tryz.func70, Tryz.ntmps70
  go_upto_region 1 with (fail)
  rw [← E0.out]
  obtain ⟨w1, hw1⟩ : ∃ w1, w1 = w.alloc (.cells #[.int .i64 0, .string ⟨#[]⟩, .string ⟨#[]⟩, .int .u8 0, .int .u8 0, .int .u8 0, .int .u8 0, .int .u8 0, .int .u8 0, .int .u8 0, .int .u8 0, .int .u8 0, .int .u8 0, .int .u8 0, .int .u8 0, .int .u8 0, .int .u8 0, .int .u8 0, .int .u8 0, .int .u8 0, .int .u8 0, .int .u8 0, .int .u8 0, .int .u8 0, .int .u8 0, .int .u8 0, .int .u8 0, .int .u8 0, .int .u8 0, .int .u8 0, .int .u8 0, .int .u8 0, .int .u8 0, .int .u8 0, .int .u8 0, .string ⟨#[]⟩, .int .i64 0, .int .i64 0] 39) := ⟨_, rfl⟩
  obtain ⟨hr, hb⟩ := ST.out _ hw1
  rw [← hw1]
  clear hw1 ST
  go_upto_region 3 with (fail)
  go_quiet (fail)
  have G := below_drewN (Below.refl w1.heap.size w1) nq
  replace hr := hr.old G
  replace hb := hb.trans (G.mono hb.size)
  clear G
  generalize w1.drewN nq = w2 at hr hb ⊢
  have J0 : Sw w w2 R Sp.zero := ⟨hr, hb⟩
  clear hr hb
  go_upto_region 9 with (fail)
  rw [HB.out]
  have pe := HP.out
  refine wp_region_held (S := fun z => Sw w z R Sp.zero) (by kernel_rfl) ?_
  change wpAnyH _ _ _ _ _ _ _ _ w2.drew
  replace J0 := J0.drew
  generalize w2.drew = w4 at J0 ⊢
  refine held_take 0 (.string b) rfl (by kernel_rfl) (by kernel_rfl) (by kernel_rfl) (fun _ _ _ h => h) (Or.inl ⟨by rfl, fun x j => by go_simp⟩) J0 (fun K hK => ?_)
  go_simp
  refine hK _ _ ?_
  clear hK K
  refine held_take 2 (.string s) rfl (by kernel_rfl) (by kernel_rfl) (by kernel_rfl) (fun _ _ _ h => h) (Or.inl ⟨by rfl, fun x j => by go_simp⟩) J0 (fun K hK => ?_)
  go_simp
  refine hK _ _ ?_
  clear hK K
  refine held_take 3 (.int .i64 (n : Int)) rfl (by kernel_rfl) (by kernel_rfl) (by kernel_rfl) (fun _ _ _ h => h) (Or.inl ⟨by rfl, fun x j => by go_simp⟩) J0 (fun K hK => ?_)
  go_simp
  refine hK _ _ ?_
  clear hK K
  refine held_take 4 (.int .i64 (6 + (n : Int))) rfl (by kernel_rfl) (by kernel_rfl) (by kernel_rfl) (fun _ _ _ h => h) (Or.inl ⟨by rfl, fun x j => by go_simp; rw [i64_is]; unfold wrap64; omega⟩) J0 (fun K hK => ?_)
  go_simp
  refine hK _ _ ?_
  clear hK K
  refine held_take 5 (.string pre) rfl (by kernel_rfl) (by kernel_rfl) (by kernel_rfl) (fun _ _ _ h => h) (Or.inl ⟨by rfl, fun x j => by go_simp; intro c; omega⟩) J0 (fun K hK => ?_)
  go_simp
  refine hK _ _ ?_
  clear hK K
  refine held_one 1 (by kernel_rfl) (fun K hK => wpOp_in rfl rfl ?_)
  go_simp
  refine (framed_any b _ hbz).mono ?_
  rintro e v1 ⟨rfl, hg⟩
  rw [← HFB.out]
  have J1 := J0.below hg
  refine hK _ _ J1 ?_
  clear hg J0
  clear hK K
  refine held_take 6 (.bool false) rfl (by kernel_rfl) (by kernel_rfl) (by kernel_rfl) (fun _ _ _ h => h) (Or.inl ⟨by rfl, fun x j => by go_simp⟩) J1 (fun K hK => ?_)
  go_simp
  refine hK _ _ ?_
  clear hK K
  refine wpAnyH_done (by kernel_rfl) ?_ _
  clear pe
  have E0' : w.heap.size ≤ R := by have := E0.out; omega
  go_wp2_with fail
  refine (rparse_any b _ hbz).mono ?_
  rintro e v2 ⟨hp, G⟩
  have J2 := J1.below G
  have he : e = .returned (.tuple #[.agg (slV x0), .bool true]) := by
    have q := ps_app hx (HBT.out.trans hxb.symm)
    rcases hp with ⟨_, _, e'⟩ | ⟨c, _⟩
    · rw [e', q.1]
    · exact absurd ⟨q.2, by rw [q.1]; exact hx⟩ c
  subst he
  clear hp G J1
  have xd : x0.dig.length = 32 := hx.dig.len
  obtain ⟨w6, S6, hy, G6, Z6⟩ := x_keep v2 xd
  have J3 := J2.below G6
  clear G6 Z6 J2
  go_upto_region 12 with (refine wpl_store S6 rfl rfl rfl rfl rfl ?_)
  clear S6
  generalize v2.heap.size = Y at hy ⊢
  have LY := sl_loads hy xd
  have S := sl_stores J3.box zeros_dig.len (y := x0) xd
  have R1 := J3.box.row (slV x0)
  have F1 := below_row (B := R) (cs := slV x0) J3.bel E0'
  generalize w6.setRow R (slV x0) = w7 at S R1 F1
  go_wp2_with (first | refine wpl_load LY rfl rfl rfl ?_ | refine wpl_store S rfl rfl rfl rfl rfl ?_)
  exact bodyPost_ret (results_three Tryz.results70 _ rfl rfl rfl (sl_loads R1 xd)) rfl ⟨by rw [show ((6 + n : Nat) : Int) = 6 + (n : Int) by omega]; rfl, F1⟩
theorem rread_any (s : ByteArray) (w : World) (hz : s.size ≤ 1000000) :
    Calls Tryz.prog 70 #[.string s] w fun e w' => e = .returned (.tuple #[.agg (slV (RD (bl s)).1), .int .i64 (RD (bl s)).2.1, .int .i64 (RD (bl s)).2.2]) ∧ Below w.heap.size w w' := by
  by_cases h : (bl s).length < 6
  · exact rread_few s w hz h
  by_cases h0 : len2 (bl s) = 0
  · exact rread_zero s w hz h h0
  by_cases h0' : 1024 < len2 (bl s)
  · exact rread_big s w hz h h0'
  have h1 : ¬ (len2 (bl s) = 0 ∨ 1024 < len2 (bl s)) := by omega
  by_cases h2 : (bl s).length < 6 + len2 (bl s)
  · exact rread_short s w hz h h1 h2
  by_cases h3 : ((bl s).drop 2).take 4 = le 4 (mor 0 ((bl s).take 2 ++ bodyOf (bl s)))
  · by_cases hx : ∃ x, Can x ∧ bodyL x = bodyOf (bl s)
    · obtain ⟨x, hx, hb⟩ := hx
      exact rread_yes s w hz h h1 h2 h3 hx hb
    · exact rread_form s w hz h h1 h2 h3 (fun x a b => hx ⟨x, a, b⟩)
  · exact rread_sum s w hz h h1 h2 h3
end Go.Proofs.YtdmgobffhpgjlaaGreat.Sl
