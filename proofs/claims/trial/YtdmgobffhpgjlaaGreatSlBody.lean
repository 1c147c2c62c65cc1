/-
  Contract of bodyOf: the body of the record that a text begins with, whatever stands in it.
-/
import Derived.Test.YtdmgobffhpgjlaaGreatSlPar
namespace Go.Proofs.YtdmgobffhpgjlaaGreat.Sl
open Go.RowKit Go.PlainAid Go.Proofs.YtdmgobffhpgjlaaGreat.Cr
set_option linter.unusedVariables false
set_option maxRecDepth 20000
set_option linter.unusedSimpArgs false

theorem len2_lt (l : List Nat) (h : ∀ x ∈ l, x < 256) : len2 l < 65536 := by
  have h1 := bN_lt (l.take 2) fun x hx => h x (List.mem_of_mem_take hx)
  have h2 : (l.take 2).length ≤ 2 := by rw [List.length_take]; omega
  have h3 : 256 ^ (l.take 2).length ≤ 256 ^ 2 := Nat.pow_le_pow_right (by decide) h2
  unfold len2
  omega
theorem num2 (s : ByteArray) : IntKind.i64.wrap (bN (bl (s.extract 0 2)) : Int) = (len2 (bl s) : Int) := by
  have h := len2_lt (bl s) (bl_lt s)
  rw [bl_extract, List.drop_zero, Nat.sub_zero, i64_is, show bN ((bl s).take 2) = len2 (bl s) from rfl]
  unfold wrap64
  omega
section
variable (s : ByteArray) (w : World) (hs : s.size ≤ 1099511627776)
set_option maxHeartbeats 1000000 in
include hs in
theorem bodyOf_few (h : s.size < 6) : Calls Tryz.prog 90 #[.string s] w fun e w' => e = .returned (.tuple #[.string ⟨#[]⟩, .int .i64 17]) ∧ Below w.heap.size w w' := by
  have l1 : (s.size : Int) < 6 := by omega
  go_enter Tryz.func90, Tryz.ntmps90
  go_wp2
  go_ret2
  exact ⟨rfl, Below.refl _ _⟩
set_option maxHeartbeats 1000000 in
include hs in
theorem bodyOf_none (h : ¬ s.size < 6) (h1 : len2 (bl s) = 0 ∨ 1024 < len2 (bl s)) : Calls Tryz.prog 90 #[.string s] w fun e w' => e = .returned (.tuple #[.string ⟨#[]⟩, .int .i64 3]) ∧ Below w.heap.size w w' := by
  have l1 : 6 ≤ (s.size : Int) := by omega
  have l0 : ¬ (s.size : Int) < 6 := by omega
  have l2 : (2 : Int) ≤ (s.size : Int) := by omega
  have N2 := Lib.hid (num2 s)
  have HL := Lib.hid h1
  clear h1
  go_enter Tryz.func90, Tryz.ntmps90
  go_wp2_with fail
  refine (number_any (s.extract 0 2) _ (by rw [ByteArray.size_extract]; omega)).mono ?_
  rintro e vX ⟨rfl, rfl⟩
  rw [N2.out]
  generalize len2 (bl s) = n at HL
  rcases HL.out with c | c
  · subst c
    go_wp2
    go_ret2
    exact ⟨rfl, Below.refl _ _⟩
  · have m1 : (1024 : Int) < (n : Int) := by omega
    have m2 : ((n : Int) == 0) = false := by rw [beq_eq_false_iff_ne]; omega
    have m3 : ¬ (n : Int) = 0 := by omega
    go_wp2
    go_ret2
    exact ⟨rfl, Below.refl _ _⟩
set_option maxHeartbeats 1000000 in
include hs in
theorem bodyOf_short (h : ¬ s.size < 6) (h1 : ¬ (len2 (bl s) = 0 ∨ 1024 < len2 (bl s))) (h2 : s.size < 6 + len2 (bl s)) : Calls Tryz.prog 90 #[.string s] w fun e w' => e = .returned (.tuple #[.string ⟨#[]⟩, .int .i64 17]) ∧ Below w.heap.size w w' := by
  have l1 : 6 ≤ (s.size : Int) := by omega
  have l0 : ¬ (s.size : Int) < 6 := by omega
  have l2 : (2 : Int) ≤ (s.size : Int) := by omega
  have N2 := Lib.hid (num2 s)
  go_enter Tryz.func90, Tryz.ntmps90
  go_wp2_with fail
  refine (number_any (s.extract 0 2) _ (by rw [ByteArray.size_extract]; omega)).mono ?_
  rintro e vX ⟨rfl, rfl⟩
  rw [N2.out]
  generalize len2 (bl s) = n at h1 h2
  have m1 : ¬ (1024 : Int) < (n : Int) := by omega
  have m2 : ((n : Int) == 0) = false := by rw [beq_eq_false_iff_ne]; omega
  have m3 : ¬ (n : Int) = 0 := by omega
  have m4 : (s.size : Int) < 6 + (n : Int) := by omega
  clear N2 h1 h2
  go_wp2
  go_ret2
  exact ⟨rfl, Below.refl _ _⟩
end
theorem body_text (s : ByteArray) (h : ¬ s.size < 6 + len2 (bl s)) : bl (s.extract 6 (6 + len2 (bl s))) = bodyOf (bl s) := by
  rw [bl_extract, Nat.add_sub_cancel_left]
  rfl
set_option maxHeartbeats 600000 in
theorem bodyOf_yes (s : ByteArray) (w : World) (hs : s.size ≤ 1099511627776) (h : ¬ s.size < 6) (h1 : ¬ (len2 (bl s) = 0 ∨ 1024 < len2 (bl s))) (h2 : ¬ s.size < 6 + len2 (bl s)) (h3 : ((bl s).drop 2).take 4 = le 4 (mor 0 ((bl s).take 2 ++ bodyOf (bl s)))) :
    Calls Tryz.prog 90 #[.string s] w fun e w' => e = .returned (.tuple #[.string (s.extract 6 (6 + len2 (bl s))), .int .i64 0]) ∧ Below w.heap.size w w' := by
  have l1 : 6 ≤ (s.size : Int) := by omega
  have l0 : ¬ (s.size : Int) < 6 := by omega
  have l2 : (2 : Int) ≤ (s.size : Int) := by omega
  have l3 : (2 : Int) ≤ 6 := by omega
  have N2 := Lib.hid (num2 s)
  have hb6 := body_text s h2
  have e1 : bl (s.extract 0 2) = (bl s).take 2 := by rw [bl_extract, List.drop_zero, Nat.sub_zero]
  have e2 : bl (s.extract 0 2) ++ bl (s.extract 6 (6 + len2 (bl s))) = (bl s).take 2 ++ bodyOf (bl s) := by rw [e1, hb6]
  have E2 : Hid (mor 0 (bl (s.extract 0 2) ++ bl (s.extract 6 (6 + len2 (bl s)))) = mor 0 ((bl s).take 2 ++ bodyOf (bl s))) := Lib.hid (by rw [e2])
  have ML := Lib.hid (show mor 0 ((bl s).take 2 ++ bodyOf (bl s)) < 4294967296 from mor_lt (by decide) (by rw [← e2]; exact fun x hx => (List.mem_append.1 hx).elim (bl_lt _ x) (bl_lt _ x)))
  have cmp : ((s.extract 2 6).toList == (tl (mor 0 ((bl s).take 2 ++ bodyOf (bl s)))).toList) = true := by
    have e3 : bl (s.extract 2 6) = ((bl s).drop 2).take 4 := by rw [bl_extract]
    have e4 := bl_tl (mor 0 ((bl s).take 2 ++ bodyOf (bl s)))
    rw [← e3, ← e4] at h3
    rw [toList_eq_iff]
    exact bl_inj h3
  clear e1 e2 hb6 h3
  generalize mor 0 ((bl s).take 2 ++ bodyOf (bl s)) = M at E2 ML cmp
  have n1 : len2 (bl s) ≠ 0 := by omega
  have n2 : len2 (bl s) ≤ 1024 := by omega
  have n3 : 6 + len2 (bl s) ≤ s.size := by omega
  clear h1 h2
  have Z2 : Hid (∀ r ∈ [s.extract 0 2, s.extract 6 (6 + len2 (bl s))], r.size ≤ 9223372036854775807) := Lib.hid (by
    intro r hr
    simp only [List.mem_cons, List.not_mem_nil, or_false] at hr
    rcases hr with rfl | rfl <;> rw [ByteArray.size_extract] <;> omega)
  generalize len2 (bl s) = n at N2 E2 Z2 n1 n2 n3 ⊢
  obtain ⟨b, hb⟩ : ∃ b, s.extract 6 (6 + n) = b := ⟨_, rfl⟩
  rw [hb] at E2 Z2
  try rw [hb]
  go_enter Tryz.func90, Tryz.ntmps90
  go_wp2_with fail
  refine (number_any (s.extract 0 2) _ (by rw [ByteArray.size_extract]; omega)).mono ?_
  rintro e vX ⟨rfl, rfl⟩
  rw [N2.out]
  clear N2
  have m1 : ¬ (1024 : Int) < (n : Int) := by omega
  have m2 : ((n : Int) == 0) = false := by rw [beq_eq_false_iff_ne]; omega
  have m3 : ¬ (n : Int) = 0 := by omega
  have m4 : ¬ (s.size : Int) < 6 + (n : Int) := by omega
  have m5 : 6 + (n : Int) ≤ (s.size : Int) := by omega
  have m6 : (6 : Int) ≤ 6 + (n : Int) := by omega
  have m7 : (6 + (n : Int)).toNat = 6 + n := by omega
  go_upto_region 10 with (fail)
  clear hb m7 m6 m5 m4
  refine wp_region_held (S := fun x => Below w.heap.size w x) (by kernel_rfl) ?_
  change wpAnyH _ _ _ _ _ _ _ _ w.drew
  have J0 : Below w.heap.size w w.drew := (Below.refl _ _).drew
  generalize w.drew = w1 at J0 ⊢
  refine held_take 0 (.string s) rfl (by kernel_rfl) (by kernel_rfl) (by kernel_rfl) (fun _ _ _ h => h) (Or.inl ⟨by rfl, fun x j => by go_simp⟩) J0 (fun K hK => ?_)
  go_simp
  refine hK _ _ ?_
  clear hK K
  refine held_take 1 (.string (s.extract 2 6)) rfl (by kernel_rfl) (by kernel_rfl) (by kernel_rfl) (fun _ _ _ h => h) (Or.inl ⟨by rfl, fun x j => by go_simp⟩) J0 (fun K hK => ?_)
  go_simp
  refine hK _ _ ?_
  clear hK K
  refine held_take 2 (.string (s.extract 0 2)) rfl (by kernel_rfl) (by kernel_rfl) (by kernel_rfl) (fun _ _ _ h => h) (Or.inl ⟨by rfl, fun x j => by go_simp⟩) J0 (fun K hK => ?_)
  go_simp
  refine hK _ _ ?_
  clear hK K
  refine held_take 3 (.string b) rfl (by kernel_rfl) (by kernel_rfl) (by kernel_rfl) (fun _ _ _ h => h) (Or.inl ⟨by rfl, fun x j => by go_simp⟩) J0 (fun K hK => ?_)
  go_simp
  refine hK _ _ ?_
  clear hK K
  refine held_one 4 (by kernel_rfl) (fun K hK => wpOp_in rfl rfl ?_)
  go_simp
  have J1 := J0.alloc J0.size (.cells #[.string (s.extract 0 2), .string b] 9)
  refine hK _ _ J1 ?_
  clear hK K
  refine held_one 5 (by kernel_rfl) (fun K hK => wpOp_in rfl rfl ?_)
  go_simp
  refine (of_any (two_strs _ _ _) (by simp) Z2.out).mono ?_
  rintro e wx ⟨rfl, rfl⟩
  rw [allB_two, E2.out]
  refine hK _ _ J1 ?_
  clear hK K
  refine held_one 6 (by kernel_rfl) (fun K hK => wpOp_in rfl rfl ?_)
  go_simp
  refine (tail_any _ _ ML.out).mono ?_
  rintro e w2 ⟨rfl, hb⟩
  have J2 := J1.trans (hb.mono J1.size)
  refine hK _ _ J2 ?_
  clear hb
  clear hK K
  refine held_take 7 (.bool false) rfl (by kernel_rfl) (by kernel_rfl) (by kernel_rfl) (fun _ _ _ h => h) (Or.inl ⟨by rfl, fun x j => by go_simp⟩) J2 (fun K hK => ?_)
  go_simp
  refine hK _ _ ?_
  clear hK K
  refine wpAnyH_done (by kernel_rfl) ?_ _
  go_wp2
  go_ret2
  exact ⟨rfl, J2⟩
set_option maxHeartbeats 600000 in
theorem bodyOf_sum (s : ByteArray) (w : World) (hs : s.size ≤ 1099511627776) (h : ¬ s.size < 6) (h1 : ¬ (len2 (bl s) = 0 ∨ 1024 < len2 (bl s))) (h2 : ¬ s.size < 6 + len2 (bl s)) (h3 : ((bl s).drop 2).take 4 ≠ le 4 (mor 0 ((bl s).take 2 ++ bodyOf (bl s)))) :
    Calls Tryz.prog 90 #[.string s] w fun e w' => e = .returned (.tuple #[.string ⟨#[]⟩, .int .i64 5]) ∧ Below w.heap.size w w' := by
  have l1 : 6 ≤ (s.size : Int) := by omega
  have l0 : ¬ (s.size : Int) < 6 := by omega
  have l2 : (2 : Int) ≤ (s.size : Int) := by omega
  have l3 : (2 : Int) ≤ 6 := by omega
  have N2 := Lib.hid (num2 s)
  have hb6 := body_text s h2
  have e1 : bl (s.extract 0 2) = (bl s).take 2 := by rw [bl_extract, List.drop_zero, Nat.sub_zero]
  have e2 : bl (s.extract 0 2) ++ bl (s.extract 6 (6 + len2 (bl s))) = (bl s).take 2 ++ bodyOf (bl s) := by rw [e1, hb6]
  have E2 : Hid (mor 0 (bl (s.extract 0 2) ++ bl (s.extract 6 (6 + len2 (bl s)))) = mor 0 ((bl s).take 2 ++ bodyOf (bl s))) := Lib.hid (by rw [e2])
  have ML := Lib.hid (show mor 0 ((bl s).take 2 ++ bodyOf (bl s)) < 4294967296 from mor_lt (by decide) (by rw [← e2]; exact fun x hx => (List.mem_append.1 hx).elim (bl_lt _ x) (bl_lt _ x)))
  have cmp : ((s.extract 2 6).toList == (tl (mor 0 ((bl s).take 2 ++ bodyOf (bl s)))).toList) = false := by
    have e3 : bl (s.extract 2 6) = ((bl s).drop 2).take 4 := by rw [bl_extract]
    have e4 := bl_tl (mor 0 ((bl s).take 2 ++ bodyOf (bl s)))
    rw [← e3, ← e4] at h3
    rw [Bool.eq_false_iff]
    intro c
    exact h3 (by rw [(toList_eq_iff _ _).1 c])
  clear e1 e2 hb6 h3
  generalize mor 0 ((bl s).take 2 ++ bodyOf (bl s)) = M at E2 ML cmp
  have n1 : len2 (bl s) ≠ 0 := by omega
  have n2 : len2 (bl s) ≤ 1024 := by omega
  have n3 : 6 + len2 (bl s) ≤ s.size := by omega
  clear h1 h2
  have Z2 : Hid (∀ r ∈ [s.extract 0 2, s.extract 6 (6 + len2 (bl s))], r.size ≤ 9223372036854775807) := Lib.hid (by
    intro r hr
    simp only [List.mem_cons, List.not_mem_nil, or_false] at hr
    rcases hr with rfl | rfl <;> rw [ByteArray.size_extract] <;> omega)
  generalize len2 (bl s) = n at N2 E2 Z2 n1 n2 n3 ⊢
  obtain ⟨b, hb⟩ : ∃ b, s.extract 6 (6 + n) = b := ⟨_, rfl⟩
  rw [hb] at E2 Z2
  try rw [hb]
  go_enter Tryz.func90, Tryz.ntmps90
  go_wp2_with fail
  refine (number_any (s.extract 0 2) _ (by rw [ByteArray.size_extract]; omega)).mono ?_
  rintro e vX ⟨rfl, rfl⟩
  rw [N2.out]
  clear N2
  have m1 : ¬ (1024 : Int) < (n : Int) := by omega
  have m2 : ((n : Int) == 0) = false := by rw [beq_eq_false_iff_ne]; omega
  have m3 : ¬ (n : Int) = 0 := by omega
  have m4 : ¬ (s.size : Int) < 6 + (n : Int) := by omega
  have m5 : 6 + (n : Int) ≤ (s.size : Int) := by omega
  have m6 : (6 : Int) ≤ 6 + (n : Int) := by omega
  have m7 : (6 + (n : Int)).toNat = 6 + n := by omega
  go_upto_region 10 with (fail)
  clear hb m7 m6 m5 m4
  refine wp_region_held (S := fun x => Below w.heap.size w x) (by kernel_rfl) ?_
  change wpAnyH _ _ _ _ _ _ _ _ w.drew
  have J0 : Below w.heap.size w w.drew := (Below.refl _ _).drew
  generalize w.drew = w1 at J0 ⊢
  refine held_take 0 (.string s) rfl (by kernel_rfl) (by kernel_rfl) (by kernel_rfl) (fun _ _ _ h => h) (Or.inl ⟨by rfl, fun x j => by go_simp⟩) J0 (fun K hK => ?_)
  go_simp
  refine hK _ _ ?_
  clear hK K
  refine held_take 1 (.string (s.extract 2 6)) rfl (by kernel_rfl) (by kernel_rfl) (by kernel_rfl) (fun _ _ _ h => h) (Or.inl ⟨by rfl, fun x j => by go_simp⟩) J0 (fun K hK => ?_)
  go_simp
  refine hK _ _ ?_
  clear hK K
  refine held_take 2 (.string (s.extract 0 2)) rfl (by kernel_rfl) (by kernel_rfl) (by kernel_rfl) (fun _ _ _ h => h) (Or.inl ⟨by rfl, fun x j => by go_simp⟩) J0 (fun K hK => ?_)
  go_simp
  refine hK _ _ ?_
  clear hK K
  refine held_take 3 (.string b) rfl (by kernel_rfl) (by kernel_rfl) (by kernel_rfl) (fun _ _ _ h => h) (Or.inl ⟨by rfl, fun x j => by go_simp⟩) J0 (fun K hK => ?_)
  go_simp
  refine hK _ _ ?_
  clear hK K
  refine held_one 4 (by kernel_rfl) (fun K hK => wpOp_in rfl rfl ?_)
  go_simp
  have J1 := J0.alloc J0.size (.cells #[.string (s.extract 0 2), .string b] 9)
  refine hK _ _ J1 ?_
  clear hK K
  refine held_one 5 (by kernel_rfl) (fun K hK => wpOp_in rfl rfl ?_)
  go_simp
  refine (of_any (two_strs _ _ _) (by simp) Z2.out).mono ?_
  rintro e wx ⟨rfl, rfl⟩
  rw [allB_two, E2.out]
  refine hK _ _ J1 ?_
  clear hK K
  refine held_one 6 (by kernel_rfl) (fun K hK => wpOp_in rfl rfl ?_)
  go_simp
  refine (tail_any _ _ ML.out).mono ?_
  rintro e w2 ⟨rfl, hb⟩
  have J2 := J1.trans (hb.mono J1.size)
  refine hK _ _ J2 ?_
  clear hb
  clear hK K
  refine held_take 7 (.bool true) rfl (by kernel_rfl) (by kernel_rfl) (by kernel_rfl) (fun _ _ _ h => h) (Or.inl ⟨by rfl, fun x j => by go_simp⟩) J2 (fun K hK => ?_)
  go_simp
  refine hK _ _ ?_
  clear hK K
  refine wpAnyH_done (by kernel_rfl) ?_ _
  go_wp2
  go_ret2
  exact ⟨rfl, J2⟩
end Go.Proofs.YtdmgobffhpgjlaaGreat.Sl
