/-
  ShaParts walked: of every text and two numbers the law answers true, where the tables lie as the program's text lays them.
-/
import Derived.Test.YtappjgeiaefcpaaDoorShNone
import Derived.OrdersHeld
namespace Go.Proofs.YtappjgeiaefcpaaDoor.Sh
open Go.RowKit Go.PlainAid
set_option linter.unusedVariables false

theorem w64 {x : Int} (h0 : 0 ≤ x) (h1 : x ≤ 1000000) : wrap64 x = x := by rw [← i64_is]; exact IntWalk.i64_in _ (by omega)
theorem cut_num (x : Int) (n : Nat) : ∃ k : Nat, (IntKind.u64.wrap x).tmod ((n : Int) + 1) = (k : Int) ∧ k ≤ n := by
  have h0 : 0 ≤ IntKind.u64.wrap x := wrap_u64_nonneg x
  rw [Int.tmod_eq_emod_of_nonneg h0]
  have h1 := Int.emod_nonneg (IntKind.u64.wrap x) (show ((n : Int) + 1) ≠ 0 by omega)
  have h2 := Int.emod_lt_of_pos (IntKind.u64.wrap x) (show 0 < (n : Int) + 1 by omega)
  exact ⟨(IntKind.u64.wrap x % ((n : Int) + 1)).toNat, by omega, by omega⟩
theorem cut_two (x y : Int) (n : Nat) (hn : n ≤ 16384) : ∃ k d : Nat, k ≤ n ∧ 0 < d ∧ d ≤ 100 ∧ wrap64 ((IntKind.u64.wrap x).tmod ((n : Int) + 1)) = (k : Int) ∧ wrap64 (1 + wrap64 ((IntKind.u64.wrap y).tmod 100)) = (d : Int) := by
  obtain ⟨k, hk, hkl⟩ := cut_num x n
  obtain ⟨m, hm, hml⟩ := cut_num y 99
  rw [show ((99 : Nat) : Int) + 1 = 100 by decide] at hm
  refine ⟨k, m + 1, hkl, Nat.succ_pos _, Nat.succ_le_succ hml, ?_, ?_⟩
  · rw [hk]; clear hk hm; exact w64 (by omega) (by omega)
  · rw [hm]; clear hk hm; rw [w64 (x := (m : Int)) (by omega) (by omega), w64 (x := 1 + (m : Int)) (by omega) (by omega)]; omega
theorem bl_sub (s : ByteArray) (i j : Nat) (h : i ≤ j) : bl (s.extract i j) = ((bl s).drop i).take (j - i) := by
  unfold bl
  rw [ByteArray.data_extract, Array.toList_extract, List.map_take, List.map_drop]
theorem take_more (l : List Nat) (i d j : Nat) (hj : j = min (i + d) l.length) (hi : i ≤ l.length) : l.take i ++ (l.drop i).take (j - i) = l.take (i + d) := by
  subst hj
  rw [List.take_add, List.append_cancel_left_eq]
  by_cases h : i + d ≤ l.length
  · rw [show min (i + d) l.length - i = d by omega]
  · rw [List.take_of_length_le (by simp; omega), List.take_of_length_le (by simp; omega)]

/-- what the call holds in memory when all is written -/
structure PInv (w wr : World) (s : ByteArray) (k H A C V1 V2 : Nat) : Prop where
  h : ∃ blk, ShaIs wr H (bl s) blk
  a : ∃ blk, ShaIs wr A ((bl s).take k) blk
  c : ∃ blk, ShaIs wr C (bl s) blk
  half : Blk wr V1 .u8 28 (shaD ((bl s).take k))
  whole : Blk wr V2 .u8 28 (shaD (bl s))
  bel : Below w.heap.size w wr
theorem PInv.below {w wr w' : World} {s : ByteArray} {k H A C V1 V2 : Nat} (i : PInv w wr s k H A C V1 V2) (hb : Below wr.heap.size wr w') : PInv w w' s k H A C V1 V2 := by
  obtain ⟨b1, h⟩ := i.h
  obtain ⟨b2, a⟩ := i.a
  obtain ⟨b3, c⟩ := i.c
  exact ⟨⟨b1, h.same (hb.block _ h.at_.lt)⟩, ⟨b2, a.same (hb.block _ a.at_.lt)⟩, ⟨b3, c.same (hb.block _ c.at_.lt)⟩, i.half.below hb i.half.lt, i.whole.below hb i.whole.lt, i.bel.trans (hb.mono i.bel.size)⟩
theorem PInv.drew {w wr : World} {s : ByteArray} {k H A C V1 V2 : Nat} (i : PInv w wr s k H A C V1 V2) : PInv w wr.drew s k H A C V1 V2 := i.below ((Below.refl _ _).drew)

section
variable {P : Program} {md : Region.Mode} {ops : Array Oper} {Q : Exit → Act → World → Prop} {S : World → Prop} {i fuel : Nat} {listed : Array Bool} {a : Act} {w : World} {oi : Oper}
theorem held_take (i : Nat) (v : Value) (hi : ops[i]? = some oi) (hs : Region.noSelect ops = true) (hf : Region.free md ops listed i = true) (hr : (Region.ready md ops listed).contains i = true)
    (hQ : ∀ c a w, Q (.panic c) (a.put oi.dst v) w → Q (.panic c) a w) (hy : YieldsIf P ops S oi v a) (hS : S w)
    (h : ∀ K : Act → World → Prop, (∀ a w, wpAnyH P md ops Q S fuel (listed.setIfInBounds i true) a w → K a w) → K (a.put oi.dst v) w) : wpAnyH P md ops Q S (fuel + 1) listed a w :=
  wpAnyH_take hi hs hf hr hQ hy hS (h _ fun _ _ h => h)
theorem held_one (i : Nat) (hr : Region.ready md ops listed = [i])
    (h1 : ∀ K : Act → World → Prop, (∀ a w, S w → wpAnyH P md ops Q S fuel (listed.setIfInBounds i true) a w → K a w) → wpOp P ops Q i K a w) : wpAnyH P md ops Q S (fuel + 1) listed a w :=
  wpAnyH_all hr (by simp) (by intro k hk; simp at hk; subst hk; exact h1 _ fun _ _ hs h => ⟨hs, h⟩)
theorem yields_load {ty : TypeId} {x : Operand} {B off : Nat} {cs : Array Value} (hl : ∀ w, S w → Loads P w ty B off cs) (hw : Region.wanted oi (yielded ops a.tmps) = true) (hop : oi.op = .load ty x) (hx : a.eval x = .pointer (some ⟨B, off, none⟩)) : YieldsIf P ops S oi (.agg cs) a := by
  refine Or.inl ⟨hw, fun w hS => ?_⟩
  unfold execOp
  simp only [hop, hx, Instr.loadAt, Instr.sureAddr, Sem.run_bind, Sem.run_pure, Result.andThen_ok, show (loadVar ty ⟨B, off, none⟩).run P w = .ok (.agg cs) w from hl w hS]
theorem wpOp_in {K : Act → World → Prop} (hi : ops[i]? = some oi) (hw : Region.wanted oi (yielded ops a.tmps) = true) (h : oi.wp P a w K Q) : wpOp P ops Q i K a w := by
  unfold wpOp
  simp only [hi]
  rw [if_pos hw]
  exact Or.inl h
end

set_option maxRecDepth 100000 in
set_option maxHeartbeats 8000000 in
theorem parts_walk (s : ByteArray) (at_ by_ : Int) (w : World) (ht : Tabs w) (hs : s.size ≤ 16384) (a0 : -9223372036854775808 ≤ at_) (a1 : at_ ≤ 9223372036854775807) (b0 : -9223372036854775808 ≤ by_) (b1 : by_ ≤ 9223372036854775807) :
    Calls Tryd.prog 4 #[.string s, .int .i64 at_, .int .i64 by_] w fun e w' => e = .returned (.bool true) ∧ Below w.heap.size w w' := by
  have HT := Lib.hid ht
  have t1 := ht.keys.lt
  clear ht
  go_enter Tryd.func4, Tryd.ntmps4
  go_wp2_with fail
  refine (awake_any _ HT.out).mono ?_
  rintro e w1 ⟨rfl, F1⟩
  have T1 := HT.out.below F1 t1
  go_wp2_with fail
  obtain ⟨k, d, hkl, hd0, hdl, hk, hd⟩ := cut_two at_ by_ s.size hs
  rw [hk, hd]
  clear hk hd a0 a1 b0 b1
  refine (new_any _ T1).mono ?_
  rintro e w2 ⟨rfl, rfl⟩
  have N := new_is w1
  have F2 := F1.alloc F1.size (.cells (shaV start (List.replicate 64 0) 0).toArray 42)
  generalize w1.alloc (.cells (shaV start (List.replicate 64 0) 0).toArray 42) = w2 at N F2 ⊢
  have hH : w.heap.size ≤ w1.heap.size := F1.size
  clear F1 T1
  generalize w1.heap.size = H at N hH ⊢
  go_wp2_with fail
  go_loopw [10] (fun v wr => ∃ i : Nat, v = .int .i64 i ∧ i ≤ s.size + 100 ∧ (∃ blk, ShaIs wr H ((bl s).take i) blk) ∧ Below w.heap.size w wr) (fun v _ => s.size + 100 - (intOf v).toNat)
  case atStart => exact ⟨0, rfl, by omega, ⟨_, N⟩, F2⟩
  case round =>
    clear N F2
    obtain ⟨i, rfl, hi, ⟨blk, I⟩, F⟩ := hrel
    have T := HT.out.below F t1
    by_cases hlt : i < s.size
    · have l1 : (i : Int) < (s.size : Int) := by omega
      by_cases hmin : i + d ≤ s.size
      · have m1 : (i : Int) + (d : Int) ≤ (s.size : Int) := by omega
        have m2 : (i : Int) ≤ (i : Int) + (d : Int) := by omega
        have m3 : ((i : Int) + (d : Int)).toNat = i + d := by omega
        go_wp2_with fail
        refine (write_any _ I T.keys (by omega) (by rw [List.length_take, ByteArray.size_extract]; omega)).mono ?_
        rintro e w3 ⟨rfl, ⟨blk3, I3⟩, hb⟩
        rw [bl_sub s i (i + d) (by omega), take_more (bl s) i d (i + d) (by rw [bl_len]; omega) (by rw [bl_len]; omega)] at I3
        have F3 := below_but F hb hH
        go_wp2
        go_roundw
        case rel => exact ⟨i + d, by go_num, by omega, ⟨blk3, I3⟩, F3⟩
        case measure => simp [intOf]; omega
      · have m1 : (s.size : Int) < (i : Int) + (d : Int) := by omega
        have m2 : (i : Int) ≤ (s.size : Int) := by omega
        go_wp2_with fail
        refine (write_any _ I T.keys (by omega) (by rw [List.length_take, ByteArray.size_extract]; omega)).mono ?_
        rintro e w3 ⟨rfl, ⟨blk3, I3⟩, hb⟩
        rw [bl_sub s i s.size (by omega), take_more (bl s) i d s.size (by rw [bl_len]; omega) (by rw [bl_len]; omega)] at I3
        have F3 := below_but F hb hH
        go_wp2
        go_roundw
        case rel => exact ⟨i + d, by go_num, by omega, ⟨blk3, I3⟩, F3⟩
        case measure => simp [intOf]; omega
    · have l1 : ¬ (i : Int) < (s.size : Int) := by omega
      rw [List.take_of_length_le (by rw [bl_len]; omega)] at I
      have kk : (k : Int) ≤ (s.size : Int) := by omega
      go_wp2_with fail
      refine (new_any _ T).mono ?_
      rintro e w4 ⟨rfl, rfl⟩
      have N := new_is wr
      have I4 := I.same (w' := wr.alloc (.cells (shaV start (List.replicate 64 0) 0).toArray 42)) (Below.heap_alloc _ _ _ I.at_.lt)
      have F4 := F.alloc F.size (.cells (shaV start (List.replicate 64 0) 0).toArray 42)
      have T4 := T.alloc (.cells (shaV start (List.replicate 64 0) 0).toArray 42)
      generalize wr.alloc (.cells (shaV start (List.replicate 64 0) 0).toArray 42) = w4 at N I4 F4 T4 ⊢
      have hA : w.heap.size ≤ wr.heap.size := F.size
      have hHA : H < wr.heap.size := I.at_.lt
      clear I F T
      generalize wr.heap.size = A at N hA hHA ⊢
      go_wp2_with fail
      refine (write_any _ N T4.keys (by omega) (by rw [ByteArray.size_extract]; simp; omega)).mono ?_
      rintro e w5 ⟨rfl, ⟨b5, A5⟩, hb⟩
      have I5 := I4.same (hb.block H I4.at_.lt (by omega))
      have F5 := below_but F4 hb hA
      have T5 := HT.out.below F5 t1
      clear N I4 F4 T4 hb
      rw [List.nil_append] at A5
      rw [bl_sub s 0 k (Nat.zero_le _), List.drop_zero, Nat.sub_zero] at A5
      have lk : ((bl s).take k).length ≤ 16384 := by rw [List.length_take, bl_len]; omega
      go_wp2_with fail
      refine (sum_any A5 T5.keys (by omega)).mono ?_
      rintro e w6 ⟨rfl, hb⟩
      have A6 := A5.same (hb.block A A5.at_.lt)
      have I6 := I5.same (hb.block H I5.at_.lt)
      have F6 := F5.trans (hb.mono F5.size)
      clear A5 I5 F5 T5 hb
      obtain ⟨w7, S7, D7, hb, Z7⟩ := keep_dig w6 (shaD ((bl s).take k)) (shaD_len _)
      have A7 := A6.same (hb.block A A6.at_.lt)
      have I7 := I6.same (hb.block H I6.at_.lt)
      have F7 := F6.trans (hb.mono F6.size)
      have T7 := HT.out.below F7 t1
      have hV1 : w.heap.size ≤ w6.heap.size := F6.size
      have hAV : A < w6.heap.size := A6.at_.lt
      have hHV : H < w6.heap.size := I6.at_.lt
      clear A6 I6 F6 hb Z7
      go_upto_region 15 with (refine wpl_store S7 rfl rfl rfl rfl rfl ?_)
      clear S7
      generalize w6.heap.size = V1 at D7 hV1 hAV hHV ⊢
      go_wp2_with fail
      refine (copy_is A7).mono ?_
      rintro e w8 ⟨rfl, C8, hb⟩
      have A8 := A7.same (hb.block A A7.at_.lt)
      have I8 := I7.same (hb.block H I7.at_.lt)
      have D8 := D7.below hb D7.lt
      have F8 := F7.trans (hb.mono F7.size)
      have T8 := HT.out.below F8 t1
      have hC : w.heap.size ≤ w7.heap.size := F7.size
      have hAC : A < w7.heap.size := A7.at_.lt
      have hHC : H < w7.heap.size := I7.at_.lt
      have hVC : V1 < w7.heap.size := D7.lt
      clear A7 I7 D7 F7 T7 hb
      generalize w7.heap.size = C at C8 hC hAC hHC hVC ⊢
      go_wp2_with fail
      refine (write_any _ C8 T8.keys (by omega) (by rw [ByteArray.size_extract]; omega)).mono ?_
      rintro e w9 ⟨rfl, ⟨b9, C9⟩, hb⟩
      have A9 := A8.same (hb.block A A8.at_.lt (by omega))
      have I9 := I8.same (hb.block H I8.at_.lt (by omega))
      have D9 : Blk w9 V1 .u8 28 (shaD ((bl s).take k)) := ⟨by rw [hb.block V1 D8.lt (by omega)]; exact D8.heap⟩
      have F9 := below_but F8 hb hC
      have T9 := HT.out.below F9 t1
      clear A8 I8 D8 F8 T8 C8 hb
      rw [bl_drop, List.take_append_drop] at C9
      go_wp2_with fail
      refine (of_any (one_strs _ _) (T9.alloc _) (by rw [allB_one, bl_len]; omega) (by simp)).mono ?_
      rintro e w10 ⟨rfl, hb⟩
      rw [allB_one]
      have hb' : Below w9.heap.size w9 w10 := ((Below.refl _ _).alloc (Nat.le_refl _) _).trans (hb.mono (by simp))
      have A10 := A9.same (hb'.block A A9.at_.lt)
      have I10 := I9.same (hb'.block H I9.at_.lt)
      have C10 := C9.same (hb'.block C C9.at_.lt)
      have D10 := D9.below hb' D9.lt
      have F10 := F9.trans (hb'.mono F9.size)
      clear A9 I9 C9 D9 F9 T9 hb hb'
      obtain ⟨w11, S11, E11, hb, Z11⟩ := keep_dig w10 (shaD (bl s)) (shaD_len _)
      have J : PInv w w11 s k H A C V1 w10.heap.size := ⟨⟨_, I10.same (hb.block H I10.at_.lt)⟩, ⟨_, A10.same (hb.block A A10.at_.lt)⟩, ⟨_, C10.same (hb.block C C10.at_.lt)⟩, D10.below hb D10.lt, E11, F10.trans (hb.mono F10.size)⟩
      clear A10 I10 C10 D10 E11 F10 hb Z11
      go_upto_region 18 with (refine wpl_store S11 rfl rfl rfl rfl rfl ?_)
      clear S11
      generalize w10.heap.size = V2 at J ⊢
      refine wp_region_held (S := fun x => PInv w x s k H A C V1 V2) (by kernel_rfl) ?_
      change wpAnyH _ _ _ _ _ _ _ _ w11.drew
      have J2 := J.drew
      clear J
      generalize w11.drew = w12 at J2 ⊢
      have Lhalf : ∀ x, PInv w x s k H A C V1 V2 → Loads Tryd.prog x 28 V1 0 (vals .u8 (shaD ((bl s).take k))).toArray := fun x j => j.half.loads (by kernel_rfl) (by rw [shaD_len]; kernel_rfl)
      have Lwhole : ∀ x, PInv w x s k H A C V1 V2 → Loads Tryd.prog x 28 V2 0 (vals .u8 (shaD (bl s))).toArray := fun x j => j.whole.loads (by kernel_rfl) (by rw [shaD_len]; kernel_rfl)
      have q1 := eq_dig ((bl s).take k)
      have q2 := eq_dig (bl s)
      have LH := Lib.hid Lhalf
      have LW := Lib.hid Lwhole
      clear Lhalf Lwhole
      refine held_take 2 (.agg (vals .u8 (shaD (bl s))).toArray) rfl (by kernel_rfl) (by kernel_rfl) (by kernel_rfl) (fun _ _ _ h => h) (yields_load LW.out rfl rfl rfl) J2 (fun K hK => ?_)
      go_simp
      refine hK _ _ ?_
      clear hK K
      refine held_take 0 (.pointer (some ⟨H, 0, none⟩)) rfl (by kernel_rfl) (by kernel_rfl) (by kernel_rfl) (fun _ _ _ h => h) (Or.inl ⟨by rfl, fun w _ => by go_simp⟩) J2 (fun K hK => ?_)
      go_simp
      refine hK _ _ ?_
      clear hK K
      obtain ⟨bx, X⟩ := J2.h
      refine held_one 1 (by kernel_rfl) (fun K hK => wpOp_in rfl rfl ?_)
      go_simp
      refine (sum_any X (HT.out.below J2.bel t1).keys (by rw [bl_len]; omega)).mono ?_
      rintro e w13 ⟨rfl, hb⟩
      have J13 := J2.below hb
      refine hK _ _ J13 ?_
      clear hK K J2 hb
      clear X
      refine held_take 3 (.bool true) rfl (by kernel_rfl) (by kernel_rfl) (by kernel_rfl) (fun _ _ _ h => h) (Or.inl ⟨by rfl, fun w _ => by go_simp⟩) J13 (fun K hK => ?_)
      go_simp
      refine hK _ _ ?_
      clear hK K
      refine held_take 4 (.bool true) rfl (by kernel_rfl) (by kernel_rfl) (by kernel_rfl) (fun _ _ _ h => h) (Or.inl ⟨by rfl, fun w _ => by go_simp⟩) J13 (fun K hK => ?_)
      go_simp
      refine hK _ _ ?_
      clear hK K
      refine held_take 7 (.agg (vals .u8 (shaD (bl s))).toArray) rfl (by kernel_rfl) (by kernel_rfl) (by kernel_rfl) (fun _ _ _ h => h) (yields_load LW.out rfl rfl rfl) J13 (fun K hK => ?_)
      go_simp
      refine hK _ _ ?_
      clear hK K
      refine held_take 5 (.pointer (some ⟨C, 0, none⟩)) rfl (by kernel_rfl) (by kernel_rfl) (by kernel_rfl) (fun _ _ _ h => h) (Or.inl ⟨by rfl, fun w _ => by go_simp⟩) J13 (fun K hK => ?_)
      go_simp
      refine hK _ _ ?_
      clear hK K
      obtain ⟨bx2, X⟩ := J13.c
      refine held_one 6 (by kernel_rfl) (fun K hK => wpOp_in rfl rfl ?_)
      go_simp
      refine (sum_any X (HT.out.below J13.bel t1).keys (by rw [bl_len]; omega)).mono ?_
      rintro e w14 ⟨rfl, hb⟩
      have J14 := J13.below hb
      refine hK _ _ J14 ?_
      clear hK K J13 hb
      clear X
      refine held_take 8 (.bool true) rfl (by kernel_rfl) (by kernel_rfl) (by kernel_rfl) (fun _ _ _ h => h) (Or.inl ⟨by rfl, fun w _ => by go_simp⟩) J14 (fun K hK => ?_)
      go_simp
      refine hK _ _ ?_
      clear hK K
      refine held_take 9 (.bool true) rfl (by kernel_rfl) (by kernel_rfl) (by kernel_rfl) (fun _ _ _ h => h) (Or.inl ⟨by rfl, fun w _ => by go_simp⟩) J14 (fun K hK => ?_)
      go_simp
      refine hK _ _ ?_
      clear hK K
      refine held_take 10 (.bool true) rfl (by kernel_rfl) (by kernel_rfl) (by kernel_rfl) (fun _ _ _ h => h) (Or.inl ⟨by rfl, fun w _ => by go_simp⟩) J14 (fun K hK => ?_)
      go_simp
      refine hK _ _ ?_
      clear hK K
      refine held_take 13 (.agg (vals .u8 (shaD ((bl s).take k))).toArray) rfl (by kernel_rfl) (by kernel_rfl) (by kernel_rfl) (fun _ _ _ h => h) (yields_load LH.out rfl rfl rfl) J14 (fun K hK => ?_)
      go_simp
      refine hK _ _ ?_
      clear hK K
      refine held_take 11 (.pointer (some ⟨A, 0, none⟩)) rfl (by kernel_rfl) (by kernel_rfl) (by kernel_rfl) (fun _ _ _ h => h) (Or.inl ⟨by rfl, fun w _ => by go_simp⟩) J14 (fun K hK => ?_)
      go_simp
      refine hK _ _ ?_
      clear hK K
      obtain ⟨bx3, X⟩ := J14.a
      refine held_one 12 (by kernel_rfl) (fun K hK => wpOp_in rfl rfl ?_)
      go_simp
      refine (sum_any X (HT.out.below J14.bel t1).keys (by omega)).mono ?_
      rintro e w15 ⟨rfl, hb⟩
      have J15 := J14.below hb
      refine hK _ _ J15 ?_
      clear hK K J14 hb
      clear X
      refine held_take 14 (.bool true) rfl (by kernel_rfl) (by kernel_rfl) (by kernel_rfl) (fun _ _ _ h => h) (Or.inl ⟨by rfl, fun w _ => by go_simp⟩) J15 (fun K hK => ?_)
      go_simp
      refine hK _ _ ?_
      clear hK K
      refine held_take 15 (.bool true) rfl (by kernel_rfl) (by kernel_rfl) (by kernel_rfl) (fun _ _ _ h => h) (Or.inl ⟨by rfl, fun w _ => by go_simp⟩) J15 (fun K hK => ?_)
      go_simp
      refine hK _ _ ?_
      clear hK K
      refine held_take 16 (.bool true) rfl (by kernel_rfl) (by kernel_rfl) (by kernel_rfl) (fun _ _ _ h => h) (Or.inl ⟨by rfl, fun w _ => by go_simp⟩) J15 (fun K hK => ?_)
      go_simp
      refine hK _ _ ?_
      clear hK K
      refine held_take 17 (.agg (vals .u8 (shaD ((bl s).take k))).toArray) rfl (by kernel_rfl) (by kernel_rfl) (by kernel_rfl) (fun _ _ _ h => h) (yields_load LH.out rfl rfl rfl) J15 (fun K hK => ?_)
      go_simp
      refine hK _ _ ?_
      clear hK K
      refine held_take 18 (.string s) rfl (by kernel_rfl) (by kernel_rfl) (by kernel_rfl) (fun _ _ _ h => h) (Or.inl ⟨by rfl, fun w _ => by go_simp⟩) J15 (fun K hK => ?_)
      go_simp
      refine hK _ _ ?_
      clear hK K
      refine held_take 19 (.int .i64 k) rfl (by kernel_rfl) (by kernel_rfl) (by kernel_rfl) (fun _ _ _ h => h) (Or.inl ⟨by rfl, fun w _ => by go_simp⟩) J15 (fun K hK => ?_)
      go_simp
      refine hK _ _ ?_
      clear hK K
      refine held_take 20 (.string (s.extract 0 k)) rfl (by kernel_rfl) (by kernel_rfl) (by kernel_rfl) (fun _ _ _ h => h) (Or.inl ⟨by rfl, fun w _ => by go_simp⟩) J15 (fun K hK => ?_)
      go_simp
      refine hK _ _ ?_
      clear hK K
      refine held_one 21 (by kernel_rfl) (fun K hK => wpOp_in rfl rfl ?_)
      go_simp
      have JB := J15.below ((Below.refl _ _).alloc (Nat.le_refl _) (.cells #[.string (s.extract 0 k)] 9))
      refine hK _ _ JB ?_
      clear hK K
      refine held_one 22 (by kernel_rfl) (fun K hK => wpOp_in rfl rfl ?_)
      go_simp
      refine (of_any (one_strs _ _) ((HT.out.below J15.bel t1).alloc _) (by rw [allB_one, bl_sub s 0 k (Nat.zero_le _), List.drop_zero, Nat.sub_zero]; omega) (by simp)).mono ?_
      rintro e w16 ⟨rfl, hb⟩
      rw [allB_one, bl_sub s 0 k (Nat.zero_le _), List.drop_zero, Nat.sub_zero]
      have J16 := JB.below hb
      refine hK _ _ J16 ?_
      clear hK K JB hb
      clear J15
      refine held_take 23 (.bool true) rfl (by kernel_rfl) (by kernel_rfl) (by kernel_rfl) (fun _ _ _ h => h) (Or.inl ⟨by rfl, fun w _ => by go_simp⟩) J16 (fun K hK => ?_)
      go_simp
      refine hK _ _ ?_
      clear hK K
      refine held_take 24 (.bool true) rfl (by kernel_rfl) (by kernel_rfl) (by kernel_rfl) (fun _ _ _ h => h) (Or.inl ⟨by rfl, fun w _ => by go_simp⟩) J16 (fun K hK => ?_)
      go_simp
      refine hK _ _ ?_
      clear hK K
      refine held_take 25 (.bool true) rfl (by kernel_rfl) (by kernel_rfl) (by kernel_rfl) (fun _ _ _ h => h) (Or.inl ⟨by rfl, fun w _ => by go_simp⟩) J16 (fun K hK => ?_)
      go_simp
      refine hK _ _ ?_
      clear hK K
      refine held_take 26 (.pointer (some ⟨A, 0, none⟩)) rfl (by kernel_rfl) (by kernel_rfl) (by kernel_rfl) (fun _ _ _ h => h) (Or.inl ⟨by rfl, fun w _ => by go_simp⟩) J16 (fun K hK => ?_)
      go_simp
      refine hK _ _ ?_
      clear hK K
      refine held_take 28 (.int .i64 k) rfl (by kernel_rfl) (by kernel_rfl) (by kernel_rfl) (fun _ _ _ h => h) (Or.inl ⟨by rfl, fun w _ => by go_simp⟩) J16 (fun K hK => ?_)
      go_simp
      refine hK _ _ ?_
      clear hK K
      obtain ⟨bx4, X⟩ := J16.a
      refine held_one 27 (by kernel_rfl) (fun K hK => wpOp_in rfl rfl ?_)
      go_simp
      refine (len_any X.at_ (by omega)).mono ?_
      rintro e w' ⟨rfl, rfl⟩
      rw [List.length_take, bl_len, Nat.min_eq_left hkl]
      refine hK _ _ J16 ?_
      clear hK K
      clear X
      refine held_take 29 (.bool true) rfl (by kernel_rfl) (by kernel_rfl) (by kernel_rfl) (fun _ _ _ h => h) (Or.inl ⟨by rfl, fun w _ => by go_simp⟩) J16 (fun K hK => ?_)
      go_simp
      refine hK _ _ ?_
      clear hK K
      refine held_take 30 (.bool true) rfl (by kernel_rfl) (by kernel_rfl) (by kernel_rfl) (fun _ _ _ h => h) (Or.inl ⟨by rfl, fun w _ => by go_simp⟩) J16 (fun K hK => ?_)
      go_simp
      refine hK _ _ ?_
      clear hK K
      refine held_take 31 (.bool true) rfl (by kernel_rfl) (by kernel_rfl) (by kernel_rfl) (fun _ _ _ h => h) (Or.inl ⟨by rfl, fun w _ => by go_simp⟩) J16 (fun K hK => ?_)
      go_simp
      refine hK _ _ ?_
      clear hK K
      refine held_take 32 (.pointer (some ⟨C, 0, none⟩)) rfl (by kernel_rfl) (by kernel_rfl) (by kernel_rfl) (fun _ _ _ h => h) (Or.inl ⟨by rfl, fun w _ => by go_simp⟩) J16 (fun K hK => ?_)
      go_simp
      refine hK _ _ ?_
      clear hK K
      refine held_take 34 (.string s) rfl (by kernel_rfl) (by kernel_rfl) (by kernel_rfl) (fun _ _ _ h => h) (Or.inl ⟨by rfl, fun w _ => by go_simp⟩) J16 (fun K hK => ?_)
      go_simp
      refine hK _ _ ?_
      clear hK K
      refine held_take 35 (.int .i64 s.size) rfl (by kernel_rfl) (by kernel_rfl) (by kernel_rfl) (fun _ _ _ h => h) (Or.inl ⟨by rfl, fun w _ => by go_simp⟩) J16 (fun K hK => ?_)
      go_simp
      refine hK _ _ ?_
      clear hK K
      obtain ⟨bx5, X⟩ := J16.c
      refine held_one 33 (by kernel_rfl) (fun K hK => wpOp_in rfl rfl ?_)
      go_simp
      refine (len_any X.at_ (by rw [bl_len]; omega)).mono ?_
      rintro e w' ⟨rfl, rfl⟩
      rw [bl_len]
      refine hK _ _ J16 ?_
      clear hK K
      clear X
      refine held_take 36 (.bool true) rfl (by kernel_rfl) (by kernel_rfl) (by kernel_rfl) (fun _ _ _ h => h) (Or.inl ⟨by rfl, fun w _ => by go_simp⟩) J16 (fun K hK => ?_)
      go_simp
      refine hK _ _ ?_
      clear hK K
      refine held_take 37 (.bool true) rfl (by kernel_rfl) (by kernel_rfl) (by kernel_rfl) (fun _ _ _ h => h) (Or.inl ⟨by rfl, fun w _ => by go_simp⟩) J16 (fun K hK => ?_)
      go_simp
      refine hK _ _ ?_
      clear hK K
      refine held_take 38 (.bool true) rfl (by kernel_rfl) (by kernel_rfl) (by kernel_rfl) (fun _ _ _ h => h) (Or.inl ⟨by rfl, fun w _ => by go_simp⟩) J16 (fun K hK => ?_)
      go_simp
      refine hK _ _ ?_
      clear hK K
      refine held_take 47 (.agg (vals .u8 (shaD (bl s))).toArray) rfl (by kernel_rfl) (by kernel_rfl) (by kernel_rfl) (fun _ _ _ h => h) (yields_load LW.out rfl rfl rfl) J16 (fun K hK => ?_)
      go_simp
      refine hK _ _ ?_
      clear hK K
      refine held_take 39 (.string s) rfl (by kernel_rfl) (by kernel_rfl) (by kernel_rfl) (fun _ _ _ h => h) (Or.inl ⟨by rfl, fun w _ => by go_simp⟩) J16 (fun K hK => ?_)
      go_simp
      refine hK _ _ ?_
      clear hK K
      refine held_take 40 (.int .i64 k) rfl (by kernel_rfl) (by kernel_rfl) (by kernel_rfl) (fun _ _ _ h => h) (Or.inl ⟨by rfl, fun w _ => by go_simp⟩) J16 (fun K hK => ?_)
      go_simp
      refine hK _ _ ?_
      clear hK K
      refine held_take 41 (.string (s.extract 0 k)) rfl (by kernel_rfl) (by kernel_rfl) (by kernel_rfl) (fun _ _ _ h => h) (Or.inl ⟨by rfl, fun w _ => by go_simp⟩) J16 (fun K hK => ?_)
      go_simp
      refine hK _ _ ?_
      clear hK K
      refine held_take 42 (.string s) rfl (by kernel_rfl) (by kernel_rfl) (by kernel_rfl) (fun _ _ _ h => h) (Or.inl ⟨by rfl, fun w _ => by go_simp⟩) J16 (fun K hK => ?_)
      go_simp
      refine hK _ _ ?_
      clear hK K
      refine held_take 43 (.int .i64 k) rfl (by kernel_rfl) (by kernel_rfl) (by kernel_rfl) (fun _ _ _ h => h) (Or.inl ⟨by rfl, fun w _ => by go_simp⟩) J16 (fun K hK => ?_)
      go_simp
      refine hK _ _ ?_
      clear hK K
      refine held_take 44 (.string (s.extract k s.size)) rfl (by kernel_rfl) (by kernel_rfl) (by kernel_rfl) (fun _ _ _ h => h) (Or.inl ⟨by rfl, fun w _ => by go_simp⟩) J16 (fun K hK => ?_)
      go_simp
      refine hK _ _ ?_
      clear hK K
      refine held_one 45 (by kernel_rfl) (fun K hK => wpOp_in rfl rfl ?_)
      go_simp
      have JC := J16.below ((Below.refl _ _).alloc (Nat.le_refl _) (.cells #[.string (s.extract 0 k), .string (s.extract k s.size)] 9))
      refine hK _ _ JC ?_
      clear hK K
      refine held_one 46 (by kernel_rfl) (fun K hK => wpOp_in rfl rfl ?_)
      go_simp
      refine (of_any (two_strs _ _ _) ((HT.out.below J16.bel t1).alloc _) (by rw [allB_two, bl_sub s 0 k (Nat.zero_le _), bl_drop, List.drop_zero, Nat.sub_zero, List.take_append_drop, bl_len]; omega) (by simp)).mono ?_
      rintro e w19 ⟨rfl, hb⟩
      rw [allB_two, bl_sub s 0 k (Nat.zero_le _), bl_drop, List.drop_zero, Nat.sub_zero, List.take_append_drop]
      have J19 := JC.below hb
      refine hK _ _ J19 ?_
      clear hK K JC hb
      refine held_take 48 (.bool true) rfl (by kernel_rfl) (by kernel_rfl) (by kernel_rfl) (fun _ _ _ h => h) (Or.inl ⟨by rfl, fun w _ => by go_simp⟩) J19 (fun K hK => ?_)
      go_simp
      refine hK _ _ ?_
      clear hK K
      refine held_take 49 (.bool true) rfl (by kernel_rfl) (by kernel_rfl) (by kernel_rfl) (fun _ _ _ h => h) (Or.inl ⟨by rfl, fun w _ => by go_simp⟩) J19 (fun K hK => ?_)
      go_simp
      refine hK _ _ ?_
      clear hK K
      refine held_take 50 (.bool true) rfl (by kernel_rfl) (by kernel_rfl) (by kernel_rfl) (fun _ _ _ h => h) (Or.inl ⟨by rfl, fun w _ => by go_simp⟩) J19 (fun K hK => ?_)
      go_simp
      refine hK _ _ ?_
      clear hK K
      refine wpAnyH_done (by kernel_rfl) ?_ _
      go_wp2
      go_ret
      exact ⟨rfl, J19.bel⟩
end Go.Proofs.YtappjgeiaefcpaaDoor.Sh
