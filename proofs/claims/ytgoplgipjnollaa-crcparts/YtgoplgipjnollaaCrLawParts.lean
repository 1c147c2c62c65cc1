/-
  CrcParts is true for every text and number: how bytes are parted doesn't matter; behind the tail of its sum each text has one and the same sum, and ends with it. No conditions.
-/
import Derived.Test.YtgoplgipjnollaaCrAwake
import Derived.ProofKit
import Derived.OpenShut
import Derived.ShutString
import Derived.Deep.DeepCutAuto
namespace Go.Proofs.Ytgoplgipjnollaa.crcParts
open Go.ChangeShapes Go.WideShapes Go.ChangeAt Go.RowKit Go.PlainAid Go.Proofs.Ytgoplgipjnollaa.Cr
open Go.ChangeMaps (open_string shut_string)
set_option linter.unusedVariables false

theorem w64 {x : Int} (h0 : 0 ≤ x) (h1 : x ≤ 1000000) : wrap64 x = x := by rw [← i64_is]; exact IntWalk.i64_in _ (by omega)
theorem cut_num (x : Int) (n : Nat) : ∃ k : Nat, (IntKind.u64.wrap x).tmod ((n : Int) + 1) = (k : Int) ∧ k ≤ n := by
  have h0 : 0 ≤ IntKind.u64.wrap x := wrap_u64_nonneg x
  rw [Int.tmod_eq_emod_of_nonneg h0]
  have h1 := Int.emod_nonneg (IntKind.u64.wrap x) (show ((n : Int) + 1) ≠ 0 by omega)
  have h2 := Int.emod_lt_of_pos (IntKind.u64.wrap x) (show 0 < (n : Int) + 1 by omega)
  exact ⟨(IntKind.u64.wrap x % ((n : Int) + 1)).toNat, by omega, by omega⟩
theorem cut_one (x : Int) (n : Nat) (hn : n ≤ 4096) : ∃ k : Nat, k ≤ n ∧ wrap64 ((IntKind.u64.wrap x).tmod ((n : Int) + 1)) = (k : Int) := by
  obtain ⟨k, hk, hkl⟩ := cut_num x n
  refine ⟨k, hkl, ?_⟩
  rw [hk]; clear hk; exact w64 (by omega) (by omega)
theorem bl_take (s : ByteArray) (k : Nat) : bl (s.extract 0 k) = (bl s).take k := by
  unfold bl
  rw [ByteArray.data_extract, Array.toList_extract, List.map_take, List.map_drop, List.drop_zero, Nat.sub_zero]
theorem bl_drop (r : ByteArray) (c : Nat) : bl (r.extract c r.size) = (bl r).drop c := by
  unfold bl
  rw [ByteArray.data_extract, Array.toList_extract, List.map_take, List.map_drop, List.take_of_length_le (by simp)]
theorem app_right (s t : ByteArray) : (s ++ t).extract s.size (s ++ t).size = t := by
  apply ByteArray.ext
  apply Array.toList_inj.1
  rw [ByteArray.data_extract, Array.toList_extract, ByteArray.data_append, Array.toList_append, List.extract_eq_take_drop, List.drop_append_of_le_length (by simp), List.drop_of_length_le (by simp), List.nil_append, List.take_of_length_le (by simp)]
theorem app_left (s t : ByteArray) : (s ++ t).extract 0 s.size = s := by
  apply ByteArray.ext
  apply Array.toList_inj.1
  rw [ByteArray.data_extract, Array.toList_extract, ByteArray.data_append, Array.toList_append, List.extract_eq_take_drop, List.drop_zero, List.take_append_of_le_length (by simp), List.take_of_length_le (by simp)]
theorem ends_tl (s : ByteArray) : endsB (s ++ tl (mor 0 (bl s))) = true := by
  have e : (s ++ tl (mor 0 (bl s))).size = s.size + 4 := by rw [ByteArray.size_append, tl_size]
  have e1 := app_right s (tl (mor 0 (bl s)))
  have e2 := app_left s (tl (mor 0 (bl s)))
  unfold endsB
  rw [show (s ++ tl (mor 0 (bl s))).size - 4 = s.size by omega, e1, e2, decide_eq_true (by omega)]
  simp
theorem parts_eq (s : ByteArray) (k : Nat) : mor (mor 0 (bl (s.extract 0 k))) (bl (s.extract k s.size)) = mor 0 (bl s) := by
  rw [bl_take, bl_drop, mor_append, List.take_append_drop]
theorem two_eq (s : ByteArray) (k : Nat) : mor 0 (allB [s.extract 0 k, s.extract k s.size]) = mor 0 (bl s) := by
  rw [allB_two, bl_take, bl_drop, List.take_append_drop]
theorem tail_eq (s : ByteArray) : mor 0 (allB [s, tl (mor 0 (bl s))]) = 558161692 := by
  rw [allB_two, bl_tl, ← mor_append]
  exact behind (bl s) (bl_lt s)
theorem sz_cut (s : ByteArray) (i j : Nat) (h : s.size ≤ 4096) : (s.extract i j).size ≤ 9223372036854775807 := by rw [ByteArray.size_extract]; omega
theorem sz_one {s : ByteArray} (h : s.size ≤ 9223372036854775807) : ∀ t ∈ [s], t.size ≤ 9223372036854775807 := by
  intro t ht; simp only [List.mem_singleton] at ht; subst ht; exact h
theorem sz_two {s r : ByteArray} (h : s.size ≤ 9223372036854775807) (h2 : r.size ≤ 9223372036854775807) : ∀ t ∈ [s, r], t.size ≤ 9223372036854775807 := by
  intro t ht; simp only [List.mem_cons, List.not_mem_nil, or_false] at ht; rcases ht with rfl | rfl
  · exact h
  · exact h2

theorem long (s : ByteArray) (x : Int) (w : World) (h0 : s.size ≤ maxLen) (h : 4096 < s.size) : Calls Try.prog 4 #[.string s, .int .i64 x] w fun e w' => e = .returned (.bool true) ∧ Below w.heap.size w w' := by
  unfold maxLen at h0
  go_enter Try.func4, Try.ntmps4
  go_wp2_with fail
  refine (awake_any _).mono ?_
  rintro e w1 ⟨rfl, hb1⟩
  go_wp2
  go_ret
  exact ⟨rfl, hb1⟩

set_option maxRecDepth 100000 in
set_option maxHeartbeats 4000000 in
theorem short (s : ByteArray) (x : Int) (w : World) (h : s.size ≤ 4096) : Calls Try.prog 4 #[.string s, .int .i64 x] w fun e w' => e = .returned (.bool true) ∧ Below w.heap.size w w' := by
  obtain ⟨k, hkl, hk⟩ := cut_one x s.size h
  have l1 : (k : Int) ≤ (s.size : Int) := by omega
  have l0 : (0 : Int) ≤ (k : Int) := by omega
  have l2 : (0 : Int) ≤ (s.size : Int) + 1 := by omega
  have l3 : (s.size : Int) + 1 ≠ 0 := by omega
  have E1 := Lib.hid (parts_eq s k)
  have E2 := Lib.hid (two_eq s k)
  have E3 := Lib.hid (tail_eq s)
  have E4 := Lib.hid (ends_tl s)
  have M := Lib.hid (mor_lt (n := 0) (l := bl s) (by decide) (bl_lt s))
  have HK := Lib.hid hk
  clear hk
  go_enter Try.func4, Try.ntmps4
  go_wp2_with fail
  refine (awake_any _).mono ?_
  rintro e w1 ⟨rfl, hb1⟩
  go_upto_region 6 with (fail)
  rw [HK.out]
  clear HK
  go_wp2_with fail
  refine (of_any (one_strs _ _) (by simp) (sz_one (by omega))).mono ?_
  rintro e w2 ⟨rfl, rfl⟩
  rw [allB_one]
  have J0 := hb1.alloc hb1.size (.cells #[.string s] 9)
  clear hb1
  generalize w1.alloc (.cells #[.string s] 9) = w2 at J0 ⊢
  go_upto_region 7 with (fail)
  generalize hm : mor 0 (bl s) = m at E1 E2 E3 E4 M ⊢
  have HM := Lib.hid hm
  clear hm
  refine wp_region_held (S := fun x => Below w.heap.size w x) (by kernel_rfl) ?_
  change wpAnyH _ _ _ _ _ _ _ _ w2.drew
  have J1 := J0.drew
  clear J0
  generalize w2.drew = w3 at J1 ⊢
  refine held_take 0 (.string s) rfl (by kernel_rfl) (by kernel_rfl) (by kernel_rfl) (fun _ _ _ h => h) (Or.inl ⟨by rfl, fun x j => by go_simp⟩) J1 (fun K hK => ?_)
  go_simp
  refine hK _ _ ?_
  clear hK K
  refine held_take 1 (.int .i64 (k : Int)) rfl (by kernel_rfl) (by kernel_rfl) (by kernel_rfl) (fun _ _ _ h => h) (Or.inl ⟨by rfl, fun x j => by go_simp⟩) J1 (fun K hK => ?_)
  go_simp
  refine hK _ _ ?_
  clear hK K
  refine held_take 2 (.string (s.extract 0 k)) rfl (by kernel_rfl) (by kernel_rfl) (by kernel_rfl) (fun _ _ _ h => h) (Or.inl ⟨by rfl, fun x j => by go_simp⟩) J1 (fun K hK => ?_)
  go_simp
  refine hK _ _ ?_
  clear hK K
  refine held_take 5 (.string s) rfl (by kernel_rfl) (by kernel_rfl) (by kernel_rfl) (fun _ _ _ h => h) (Or.inl ⟨by rfl, fun x j => by go_simp⟩) J1 (fun K hK => ?_)
  go_simp
  refine hK _ _ ?_
  clear hK K
  refine held_take 6 (.int .i64 (k : Int)) rfl (by kernel_rfl) (by kernel_rfl) (by kernel_rfl) (fun _ _ _ h => h) (Or.inl ⟨by rfl, fun x j => by go_simp⟩) J1 (fun K hK => ?_)
  go_simp
  refine hK _ _ ?_
  clear hK K
  refine held_take 7 (.string (s.extract k s.size)) rfl (by kernel_rfl) (by kernel_rfl) (by kernel_rfl) (fun _ _ _ h => h) (Or.inl ⟨by rfl, fun x j => by go_simp⟩) J1 (fun K hK => ?_)
  go_simp
  refine hK _ _ ?_
  clear hK K
  refine held_take 9 (.int .u32 (m : Nat)) rfl (by kernel_rfl) (by kernel_rfl) (by kernel_rfl) (fun _ _ _ h => h) (Or.inl ⟨by rfl, fun x j => by go_simp⟩) J1 (fun K hK => ?_)
  go_simp
  refine hK _ _ ?_
  clear hK K
  refine held_one 3 (by kernel_rfl) (fun K hK => wpOp_in rfl rfl ?_)
  go_simp
  have J2 := J1.alloc J1.size (.cells #[.string (s.extract 0 k)] 9)
  refine hK _ _ J2 ?_
  clear hK K
  refine held_one 4 (by kernel_rfl) (fun K hK => wpOp_in rfl rfl ?_)
  go_simp
  refine (of_any (one_strs _ _) (by simp) (sz_one (sz_cut _ _ _ h))).mono ?_
  rintro e wx ⟨rfl, rfl⟩
  rw [allB_one]
  refine hK _ _ J2 ?_
  clear hK K
  refine held_one 8 (by kernel_rfl) (fun K hK => wpOp_in rfl rfl ?_)
  go_simp
  refine (more_any _ _ _ (mor_lt (by decide) (bl_lt _)) (sz_cut _ _ _ h)).mono ?_
  rintro e wx ⟨rfl, rfl⟩
  rw [E1.out]
  refine hK _ _ J2 ?_
  clear hK K
  generalize w3.alloc (.cells #[.string (s.extract 0 k)] 9) = w4 at J2 ⊢
  clear J1
  refine held_take 10 (.bool true) rfl (by kernel_rfl) (by kernel_rfl) (by kernel_rfl) (fun _ _ _ h => h) (Or.inl ⟨by rfl, fun x j => by go_simp⟩) J2 (fun K hK => ?_)
  go_simp
  refine hK _ _ ?_
  clear hK K
  refine held_take 11 (.bool true) rfl (by kernel_rfl) (by kernel_rfl) (by kernel_rfl) (fun _ _ _ h => h) (Or.inl ⟨by rfl, fun x j => by go_simp⟩) J2 (fun K hK => ?_)
  go_simp
  refine hK _ _ ?_
  clear hK K
  refine held_take 12 (.string s) rfl (by kernel_rfl) (by kernel_rfl) (by kernel_rfl) (fun _ _ _ h => h) (Or.inl ⟨by rfl, fun x j => by go_simp⟩) J2 (fun K hK => ?_)
  go_simp
  refine hK _ _ ?_
  clear hK K
  refine held_take 13 (.int .i64 (k : Int)) rfl (by kernel_rfl) (by kernel_rfl) (by kernel_rfl) (fun _ _ _ h => h) (Or.inl ⟨by rfl, fun x j => by go_simp⟩) J2 (fun K hK => ?_)
  go_simp
  refine hK _ _ ?_
  clear hK K
  refine held_take 14 (.string (s.extract 0 k)) rfl (by kernel_rfl) (by kernel_rfl) (by kernel_rfl) (fun _ _ _ h => h) (Or.inl ⟨by rfl, fun x j => by go_simp⟩) J2 (fun K hK => ?_)
  go_simp
  refine hK _ _ ?_
  clear hK K
  refine held_take 15 (.string s) rfl (by kernel_rfl) (by kernel_rfl) (by kernel_rfl) (fun _ _ _ h => h) (Or.inl ⟨by rfl, fun x j => by go_simp⟩) J2 (fun K hK => ?_)
  go_simp
  refine hK _ _ ?_
  clear hK K
  refine held_take 16 (.int .i64 (k : Int)) rfl (by kernel_rfl) (by kernel_rfl) (by kernel_rfl) (fun _ _ _ h => h) (Or.inl ⟨by rfl, fun x j => by go_simp⟩) J2 (fun K hK => ?_)
  go_simp
  refine hK _ _ ?_
  clear hK K
  refine held_take 17 (.string (s.extract k s.size)) rfl (by kernel_rfl) (by kernel_rfl) (by kernel_rfl) (fun _ _ _ h => h) (Or.inl ⟨by rfl, fun x j => by go_simp⟩) J2 (fun K hK => ?_)
  go_simp
  refine hK _ _ ?_
  clear hK K
  refine held_take 20 (.int .u32 (m : Nat)) rfl (by kernel_rfl) (by kernel_rfl) (by kernel_rfl) (fun _ _ _ h => h) (Or.inl ⟨by rfl, fun x j => by go_simp⟩) J2 (fun K hK => ?_)
  go_simp
  refine hK _ _ ?_
  clear hK K
  refine held_one 18 (by kernel_rfl) (fun K hK => wpOp_in rfl rfl ?_)
  go_simp
  have J3 := J2.alloc J2.size (.cells #[.string (s.extract 0 k), .string (s.extract k s.size)] 9)
  refine hK _ _ J3 ?_
  clear hK K
  refine held_one 19 (by kernel_rfl) (fun K hK => wpOp_in rfl rfl ?_)
  go_simp
  refine (of_any (two_strs _ _ _) (by simp) (sz_two (sz_cut _ _ _ h) (sz_cut _ _ _ h))).mono ?_
  rintro e wx ⟨rfl, rfl⟩
  rw [E2.out]
  refine hK _ _ J3 ?_
  clear hK K
  generalize w4.alloc (.cells #[.string (s.extract 0 k), .string (s.extract k s.size)] 9) = w5 at J3 ⊢
  clear J2
  refine held_take 21 (.bool true) rfl (by kernel_rfl) (by kernel_rfl) (by kernel_rfl) (fun _ _ _ h => h) (Or.inl ⟨by rfl, fun x j => by go_simp⟩) J3 (fun K hK => ?_)
  go_simp
  refine hK _ _ ?_
  clear hK K
  refine held_take 22 (.bool true) rfl (by kernel_rfl) (by kernel_rfl) (by kernel_rfl) (fun _ _ _ h => h) (Or.inl ⟨by rfl, fun x j => by go_simp⟩) J3 (fun K hK => ?_)
  go_simp
  refine hK _ _ ?_
  clear hK K
  refine held_take 23 (.bool true) rfl (by kernel_rfl) (by kernel_rfl) (by kernel_rfl) (fun _ _ _ h => h) (Or.inl ⟨by rfl, fun x j => by go_simp⟩) J3 (fun K hK => ?_)
  go_simp
  refine hK _ _ ?_
  clear hK K
  refine held_take 24 (.string s) rfl (by kernel_rfl) (by kernel_rfl) (by kernel_rfl) (fun _ _ _ h => h) (Or.inl ⟨by rfl, fun x j => by go_simp⟩) J3 (fun K hK => ?_)
  go_simp
  refine hK _ _ ?_
  clear hK K
  refine held_take 25 (.int .u32 (m : Nat)) rfl (by kernel_rfl) (by kernel_rfl) (by kernel_rfl) (fun _ _ _ h => h) (Or.inl ⟨by rfl, fun x j => by go_simp⟩) J3 (fun K hK => ?_)
  go_simp
  refine hK _ _ ?_
  clear hK K
  refine held_one 26 (by kernel_rfl) (fun K hK => wpOp_in rfl rfl ?_)
  go_simp
  refine (tail_any m _ M.out).mono ?_
  rintro e w6 ⟨rfl, hb⟩
  have J4 := J3.trans (hb.mono J3.size)
  refine hK _ _ J4 ?_
  clear hK K hb
  refine held_one 27 (by kernel_rfl) (fun K hK => wpOp_in rfl rfl ?_)
  go_simp
  have J5 := J4.alloc J4.size (.cells #[.string s, .string (tl m)] 9)
  refine hK _ _ J5 ?_
  clear hK K
  refine held_one 28 (by kernel_rfl) (fun K hK => wpOp_in rfl rfl ?_)
  go_simp
  refine (of_any (two_strs _ _ _) (by simp) (sz_two (by omega) (by rw [tl_size]; decide))).mono ?_
  rintro e wx ⟨rfl, rfl⟩
  rw [E3.out]
  refine hK _ _ J5 ?_
  clear hK K
  generalize w6.alloc (.cells #[.string s, .string (tl m)] 9) = w7 at J5 ⊢
  clear J3 J4
  refine held_take 29 (.bool true) rfl (by kernel_rfl) (by kernel_rfl) (by kernel_rfl) (fun _ _ _ h => h) (Or.inl ⟨by rfl, fun x j => by go_simp⟩) J5 (fun K hK => ?_)
  go_simp
  refine hK _ _ ?_
  clear hK K
  refine held_take 30 (.bool true) rfl (by kernel_rfl) (by kernel_rfl) (by kernel_rfl) (fun _ _ _ h => h) (Or.inl ⟨by rfl, fun x j => by go_simp⟩) J5 (fun K hK => ?_)
  go_simp
  refine hK _ _ ?_
  clear hK K
  refine held_take 31 (.bool true) rfl (by kernel_rfl) (by kernel_rfl) (by kernel_rfl) (fun _ _ _ h => h) (Or.inl ⟨by rfl, fun x j => by go_simp⟩) J5 (fun K hK => ?_)
  go_simp
  refine hK _ _ ?_
  clear hK K
  refine held_take 32 (.string s) rfl (by kernel_rfl) (by kernel_rfl) (by kernel_rfl) (fun _ _ _ h => h) (Or.inl ⟨by rfl, fun x j => by go_simp⟩) J5 (fun K hK => ?_)
  go_simp
  refine hK _ _ ?_
  clear hK K
  refine held_take 33 (.int .u32 (m : Nat)) rfl (by kernel_rfl) (by kernel_rfl) (by kernel_rfl) (fun _ _ _ h => h) (Or.inl ⟨by rfl, fun x j => by go_simp⟩) J5 (fun K hK => ?_)
  go_simp
  refine hK _ _ ?_
  clear hK K
  refine held_one 34 (by kernel_rfl) (fun K hK => wpOp_in rfl rfl ?_)
  go_simp
  refine (tail_any m _ M.out).mono ?_
  rintro e w8 ⟨rfl, hb⟩
  have J6 := J5.trans (hb.mono J5.size)
  refine hK _ _ J6 ?_
  clear hK K hb
  have z5 : s.size + (tl m).size ≤ 9223372036854775807 := by rw [tl_size]; omega
  refine held_take 35 (.string (s ++ tl m)) rfl (by kernel_rfl) (by kernel_rfl) (by kernel_rfl) (fun _ _ _ h => h) (Or.inl ⟨by rfl, fun x j => by go_simp⟩) J6 (fun K hK => ?_)
  go_simp
  refine hK _ _ ?_
  clear hK K
  refine held_one 36 (by kernel_rfl) (fun K hK => wpOp_in rfl rfl ?_)
  go_simp
  refine (ends_any _ _ (by rw [ByteArray.size_append, tl_size]; omega)).mono ?_
  rintro e w9 ⟨rfl, hb⟩
  rw [E4.out]
  have J7 := J6.trans (hb.mono J6.size)
  refine hK _ _ J7 ?_
  clear hK K hb
  refine held_take 37 (.bool true) rfl (by kernel_rfl) (by kernel_rfl) (by kernel_rfl) (fun _ _ _ h => h) (Or.inl ⟨by rfl, fun x j => by go_simp⟩) J7 (fun K hK => ?_)
  go_simp
  refine hK _ _ ?_
  clear hK K
  refine held_take 38 (.bool true) rfl (by kernel_rfl) (by kernel_rfl) (by kernel_rfl) (fun _ _ _ h => h) (Or.inl ⟨by rfl, fun x j => by go_simp⟩) J7 (fun K hK => ?_)
  go_simp
  refine hK _ _ ?_
  clear hK K
  refine wpAnyH_done (by kernel_rfl) ?_ _
  go_wp2
  go_ret
  exact ⟨rfl, J7⟩

theorem walk (s : ByteArray) (x : Int) (w0 : s.size ≤ maxLen) (w1 : (Lit.int .i64 x).wf = true) (w : World) :
    Calls Try.prog 4 #[.string s, .int .i64 x] w fun e w' => e = .returned (.bool true) ∧ Below w.heap.size w w' := by
  by_cases h : 4096 < s.size
  · exact long s x w w0 h
  · exact short s x w (by omega)

theorem own : ownKnob Try.prog.godebug = none := by kernel_rfl

set_option maxRecDepth 100000 in
theorem lifted (os : Os) (started : os.Started) (H : Type) (enc : TypeId × Value → H) :
    ReturnsInHanded {} Try.checked os 4 .any (Rows.crcPartsSpec.pre6 enc Try.prog Try.f4 Rows.crcPartsRow.domain false) (Rows.crcPartsSpec.post enc Try.prog Try.f4 false true false false) := by
  refine returnsInHanded_of_change (C := Try.checked) own started (by kernel_rfl) Try.func4
    (ChangeSpec.witness6 (enc := enc) (C := Try.checked) false ⟨#[], #[.string ByteArray.empty, .int .i64 0], []⟩ 8 (by kernel_rfl) (by kernel_rfl) (by kernel_rfl) (by kernel_rfl)) ?_
  intro W base args ds gs before hval0 hW hcnd _
  have hval : ∀ (j : Nat) t v, Try.f4.params[j]? = some t → args[j]? = some v → Value.okWide Try.prog W .any base t v := hval0
  have hW' := hW
  obtain ⟨p, q, hA0, hV, rfl, hfz, hnd⟩ := hW
  have hA : DataW.TrodAll enc Try.prog W 0 (fun _ => true) true Try.f4.params.toList args.toList ds p := hA0
  rw [Try.params4] at hA hval
  obtain ⟨v0, vs0, d0, ds0, p0, q0, hargs, rfl, rfl, h0, r0⟩ := trodAll_cons hA
  obtain ⟨v1, vs1, d1, ds1, p1, q1, rfl, rfl, rfl, h1, r1⟩ := trodAll_cons r0
  obtain ⟨rfl, rfl, rfl⟩ := trodAll_nil r1
  obtain rfl : args = #[v0, v1] := by cases args; simp_all
  obtain ⟨rfl, rfl⟩ := trodVars_none hV
  obtain ⟨a0, rfl, rfl, rfl, w0⟩ := open_string Try.underlying9 (hval 0 9 v0 rfl rfl) h0
  obtain ⟨a1, rfl, rfl, rfl, w1⟩ := open_int Try.underlying3 (hval 1 3 v1 rfl rfl) h1
  clear hA0 hval0
  simp only [List.append_nil] at hW'
  refine (walk a0 a1 w0 w1 W).mono fun e W' ⟨he, bel⟩ => ?_
  subst he
  exact ⟨_, rfl, _, _, _, [], _, [], hW', trodAll_mk1 (shut_bool Try.underlying4 _), (trodAll_cons_mk (shut_string Try.underlying9 w0) (trodAll_cons_mk (shut_int Try.underlying3 w1) trodAll_mk0)), rfl, bel.frame _, fun h => by cases h⟩

theorem over : Rows.crcPartsRow.holds Try.pinned (OpenSpec.ofChange Rows.crcPartsSpec) :=
  OpenClaim.holds_of_wide 4 Try.f4 rfl rfl rfl rfl rfl rfl rfl ⟨rfl, rfl, rfl, rfl, rfl⟩ rfl rfl rfl rfl rfl (by kernel_rfl) Try.func4 (by kernel_rfl)
    (of_decide_eq_true (by kernel_rfl)) (by unfold Func.isWrapper; first | (rw [if_pos (by decide +kernel)]; kernel_rfl) | (rw [if_neg (by decide +kernel)]; exact ⟨rfl, rfl⟩))
    (fun os started H enc _ => lifted os started H enc)

theorem proved : Rows.CrcPartsSaid :=
  over
#print axioms proved
end Go.Proofs.Ytgoplgipjnollaa.crcParts
