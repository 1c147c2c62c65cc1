/-
  ShaNone walked: of every two texts the law answers true, where the tables lie as the program's text lays them.
-/
import Derived.Test.YtappjgeiaefcpaaDoorShAwake
import Derived.Stop.BytesEq
namespace Go.Proofs.YtappjgeiaefcpaaDoor.Sh
open Go.RowKit Go.PlainAid
open Go.Extern.Stop (cell)
set_option linter.unusedVariables false

theorem copy_is {w : World} {B : Nat} {l blk : List Nat} (h : ShaIs w B l blk) :
    Calls Tryd.prog 13 #[.pointer (some ⟨B, 0, none⟩)] w fun e w' => e = .returned (.pointer (some ⟨w.heap.size, 0, none⟩)) ∧ ShaIs w' w.heap.size l blk ∧ Below w.heap.size w w' :=
  (copy_any h.at_).mono fun _ _ ⟨a, b, c⟩ => ⟨a, ⟨b, h.lt, h.tail⟩, c⟩
theorem bl_empty : bl ⟨#[]⟩ = [] := rfl

theorem shaD_lt (l : List Nat) : ∀ x ∈ shaD l, x < 256 := by
  intro x hx
  obtain ⟨i, hi, rfl⟩ := List.getElem_of_mem hx
  have h : Lt 256 (shaD l) := by unfold shaD; exact dig_lt _ _
  have := h i
  rw [at0_lt hi] at this
  exact this
theorem cells_of {d : List Nat} (h : ∀ x ∈ d, x < 256) : vals .u8 d = (d.map UInt8.ofNat).map cell := by
  unfold vals
  rw [List.map_map]
  apply List.map_congr_left
  intro x hx
  have := h x hx
  simp [cell, Nat.mod_eq_of_lt this]
theorem eq_dig (l : List Nat) (w : World) : (Op.equalIn 10000 28 (.agg (vals .u8 (shaD l)).toArray) (.agg (vals .u8 (shaD l)).toArray)).run Tryd.prog w = .ok true w := by
  rw [cells_of (shaD_lt l)]
  have := run_equalIn_bytes (P := Tryd.prog) w 9998 28 5 32 Tryd.underlying28 Tryd.underlying5 (fun w => size_of (by kernel_rfl) w) ((shaD l).map UInt8.ofNat) ((shaD l).map UInt8.ofNat) (by simp [shaD_len]) (by simp [shaD_len])
  simpa using this
theorem allB_one (s : ByteArray) : allB [s] = bl s := by simp [allB]
theorem allB_two (s t : ByteArray) : allB [s, t] = bl s ++ bl t := by simp [allB]

set_option maxRecDepth 100000 in
set_option maxHeartbeats 4000000 in
theorem none_walk (s t : ByteArray) (w : World) (ht : Tabs w) (hs : s.size ≤ 4096) (htt : t.size ≤ 4096) :
    Calls Tryd.prog 5 #[.string s, .string t] w fun e w' => e = .returned (.bool true) ∧ Below w.heap.size w w' := by
  have HT := Lib.hid ht
  have t1 := ht.keys.lt
  clear ht
  go_enter Tryd.func5, Tryd.ntmps5
  go_wp2_with fail
  refine (awake_any _ HT.out).mono ?_
  rintro e w1 ⟨rfl, F1⟩
  have T1 := HT.out.below F1 t1
  go_wp2_with fail
  refine (write_nil _ _).mono ?_
  rintro e w' ⟨rfl, rfl⟩
  go_wp2_with fail
  refine (new_any _ T1).mono ?_
  rintro e w2 ⟨rfl, rfl⟩
  have N := new_is w1
  have F2 := F1.alloc F1.size (.cells (shaV start (List.replicate 64 0) 0).toArray 42)
  have T2 := T1.alloc (.cells (shaV start (List.replicate 64 0) 0).toArray 42)
  generalize w1.alloc (.cells (shaV start (List.replicate 64 0) 0).toArray 42) = w2 at N F2 T2 ⊢
  have hB : w.heap.size ≤ w1.heap.size := F1.size
  clear F1 T1
  generalize w1.heap.size = B at N hB ⊢
  go_wp2_with fail
  refine (write_any s N T2.keys (by omega) (by simp; omega)).mono ?_
  rintro e w3 ⟨rfl, ⟨b3, I3⟩, hb⟩
  have F3 := below_but F2 hb hB
  have T3 := HT.out.below F3 t1
  clear N F2 T2 hb
  rw [List.nil_append] at I3
  go_wp2_with fail
  refine (copy_is I3).mono ?_
  rintro e w4 ⟨rfl, C4, hb⟩
  have I4 := I3.same (hb.block B I3.at_.lt)
  have F4 := F3.trans (hb.mono F3.size)
  have T4 := HT.out.below F4 t1
  have hBC : B < w3.heap.size := I3.at_.lt
  have hC : w.heap.size ≤ w3.heap.size := F3.size
  clear I3 F3 T3 hb
  generalize w3.heap.size = C at C4 hBC hC ⊢
  go_wp2_with fail
  refine (write_any t I4 T4.keys (by omega) (by rw [bl_len]; omega)).mono ?_
  rintro e w5 ⟨rfl, ⟨b5, I5⟩, hb⟩
  have C5 := C4.same (hb.block C C4.at_.lt (by omega))
  have F5 := below_but F4 hb hB
  have T5 := HT.out.below F5 t1
  clear I4 F4 T4 C4 hb
  go_wp2_with fail
  refine (write_any ⟨#[]⟩ C5 T5.keys (by omega) (by rw [bl_len]; show s.size + 0 ≤ _; omega)).mono ?_
  rintro e w6 ⟨rfl, ⟨b6, C6⟩, hb⟩
  have I6 := I5.same (hb.block B I5.at_.lt (by omega))
  have F6 := below_but F5 hb hC
  have T6 := HT.out.below F6 t1
  clear I5 F5 T5 C5 hb
  rw [bl_empty, List.append_nil] at C6
  go_wp2_with fail
  refine (sum_nil _ T6).mono ?_
  rintro e w7 ⟨rfl, hb⟩
  have I7 := I6.same (hb.block B I6.at_.lt)
  have C7 := C6.same (hb.block C C6.at_.lt)
  have F7 := F6.trans (hb.mono F6.size)
  have T7 := HT.out.below F7 t1
  clear I6 C6 F6 T6 hb
  go_wp2_with fail
  refine (of_any (none_strs _) T7 (by decide) (by decide)).mono ?_
  rintro e w8 ⟨rfl, hb⟩
  rw [show allB [] = [] by decide]
  have I8 := I7.same (hb.block B I7.at_.lt)
  have C8 := C7.same (hb.block C C7.at_.lt)
  have F8 := F7.trans (hb.mono F7.size)
  have T8 := HT.out.below F8 t1
  clear I7 C7 F7 T7 hb
  have q1 := eq_dig []
  go_wp2_with fail
  refine (len_nil _).mono ?_
  rintro e w' ⟨rfl, rfl⟩
  go_wp2_with fail
  refine (copy_nil _).mono ?_
  rintro e w' ⟨rfl, rfl⟩
  go_wp2_with fail
  refine (sum_any C8 T8.keys (by rw [bl_len]; omega)).mono ?_
  rintro e w9 ⟨rfl, hb⟩
  have I9 := I8.same (hb.block B I8.at_.lt)
  have F9 := F8.trans (hb.mono F8.size)
  have T9 := HT.out.below F9 t1
  clear I8 C8 F8 T8 hb
  go_wp2_with fail
  refine (of_any (one_strs _ _) (T9.alloc _) (by rw [allB_one, bl_len]; omega) (by simp)).mono ?_
  rintro e w10 ⟨rfl, hb⟩
  rw [allB_one]
  have hb' : Below w9.heap.size w9 w10 := ((Below.refl _ _).alloc (Nat.le_refl _) _).trans (hb.mono (by simp))
  have I10 := I9.same (hb'.block B I9.at_.lt)
  have F10 := F9.trans (hb'.mono F9.size)
  have T10 := HT.out.below F10 t1
  clear I9 F9 T9 hb hb'
  have q2 := eq_dig (bl s)
  go_wp2_with fail
  refine (sum_any I10 T10.keys (by rw [List.length_append, bl_len, bl_len]; omega)).mono ?_
  rintro e w11 ⟨rfl, hb⟩
  have F11 := F10.trans (hb.mono F10.size)
  have T11 := HT.out.below F11 t1
  clear I10 F10 T10 hb
  go_wp2_with fail
  refine (of_any (two_strs _ _ _) (T11.alloc _) (by rw [allB_two, List.length_append, bl_len, bl_len]; omega) (by simp)).mono ?_
  rintro e w12 ⟨rfl, hb⟩
  rw [allB_two]
  have hb' : Below w11.heap.size w11 w12 := ((Below.refl _ _).alloc (Nat.le_refl _) _).trans (hb.mono (by simp))
  have F12 := F11.trans (hb'.mono F11.size)
  have T12 := HT.out.below F12 t1
  clear F11 T11 hb hb'
  have q3 := eq_dig (bl s ++ bl t)
  go_wp2_with fail
  refine (new_any _ T12).mono ?_
  rintro e w13 ⟨rfl, rfl⟩
  have N := new_is w12
  have F13 := F12.alloc F12.size (.cells (shaV start (List.replicate 64 0) 0).toArray 42)
  have T13 := T12.alloc (.cells (shaV start (List.replicate 64 0) 0).toArray 42)
  generalize w12.alloc (.cells (shaV start (List.replicate 64 0) 0).toArray 42) = w13 at N F13 T13 ⊢
  clear F12 T12
  go_wp2_with fail
  refine (sum_any N T13.keys (by simp)).mono ?_
  rintro e w14 ⟨rfl, hb⟩
  have F14 := F13.trans (hb.mono F13.size)
  have T14 := HT.out.below F14 t1
  clear N F13 T13 hb
  go_wp2_with fail
  refine (of_any (two_strs _ _ _) (T14.alloc _) (by decide) (by decide)).mono ?_
  rintro e w15 ⟨rfl, hb⟩
  rw [show allB [⟨#[]⟩, ⟨#[]⟩] = [] by decide]
  have hb' : Below w14.heap.size w14 w15 := ((Below.refl _ _).alloc (Nat.le_refl _) _).trans (hb.mono (by simp))
  have F15 := F14.trans (hb'.mono F14.size)
  clear F14 T14 hb hb'
  go_wp2
  go_ret
  exact ⟨rfl, F15⟩
end Go.Proofs.YtappjgeiaefcpaaDoor.Sh
