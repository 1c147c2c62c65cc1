/-
  Contract of Write: the record of a slip that can be, or ErrArg.
-/
import Derived.Test.YtdmgobffhpgjlaaGreatSlGood2
import Derived.Test.YtdmgobffhpgjlaaGreatSlWr

namespace Go.Proofs.YtdmgobffhpgjlaaGreat.Sl
open Go.RowKit Go.PlainAid Go.Proofs.YtdmgobffhpgjlaaGreat.Cr
set_option linter.unusedVariables false
set_option maxRecDepth 20000
set_option linter.unusedSimpArgs false

set_option maxHeartbeats 4000000 in
theorem write_no (x : Sp) (w : World) (ok : Okay x) (hc : ¬ Can x) :
    Calls Tryz.prog 52 #[.agg (slV x)] w fun e w' => e = .returned (.tuple #[.string ⟨#[]⟩, .int .i64 1]) ∧ Below w.heap.size w w' := by
  have X := At.new w 39 (slV x)
  have F : Below w.heap.size w (w.alloc (.cells (slV x) 39)) := (Below.refl _ _).alloc (Nat.le_refl _) _
  go_enter Tryz.func52, Tryz.ntmps52
  go_upto_region 1 with (fail)
  generalize w.alloc (.cells (slV x) 39) = w1 at X F ⊢
  have LX := sl_loads X ok.dig.len
  go_wp2_with (refine wpl_load LX rfl rfl rfl ?_)
  refine (good_any x _ ok).mono ?_
  rintro e w2 ⟨rfl, G⟩
  rw [canB_no hc]
  replace F := F.trans (G.mono F.size)
  clear G LX X
  go_wp2
  go_ret2
  exact ⟨rfl, F⟩
theorem body_ne {x : Sp} (h : Can x) : bodyL x ≠ [] := by
  have := body_len h
  intro e
  rw [e] at this
  simp at this
theorem be_ne (n : Int) : be 2 n ≠ [] := by simp [be]
theorem rec_text (b : List Nat) : strOf (be 2 (b.length : Int)) ++ tl (mor 0 (be 2 (b.length : Int) ++ b)) ++ strOf b = strOf (recL b) := by
  unfold tl recL
  rw [strOf_append, strOf_append]
set_option maxHeartbeats 4000000 in
theorem write_yes (x : Sp) (w : World) (ok : Okay x) (hc : Can x) :
    Calls Tryz.prog 52 #[.agg (slV x)] w fun e w' => e = .returned (.tuple #[.string (strOf (recL (bodyL x))), .int .i64 0]) ∧ Below w.heap.size w w' := by
  have hd := ok.dig.len
  obtain ⟨b1, b2⟩ := body_len hc
  have BN := Lib.hid (body_ne hc)
  have BL := Lib.hid (body_lt hc.dig)
  have RT := Lib.hid (rec_text (bodyL x))
  have X := At.new w 39 (slV x)
  have F : Below w.heap.size w (w.alloc (.cells (slV x) 39)) := (Below.refl _ _).alloc (Nat.le_refl _) _
  go_enter Tryz.func52, Tryz.ntmps52
  go_upto_region 1 with (fail)
  obtain ⟨B, hB⟩ : ∃ B, B = w.heap.size := ⟨_, rfl⟩
  rw [← hB] at X ⊢
  generalize w.alloc (.cells (slV x) 39) = w1 at X F ⊢
  have HB := Lib.hid hB
  clear hB
  have LX := sl_loads X hd
  go_wp2_with (refine wpl_load LX rfl rfl rfl ?_)
  refine (good_any x _ ok).mono ?_
  rintro e w2 ⟨rfl, G⟩
  rw [canB_yes hc]
  replace F := F.trans (G.mono F.size)
  replace X := X.old G
  clear G LX
  have A1 := (At.new w2 122 #[.pointer none, .slice none 0 0]).alloc (.cells #[.pointer none, .slice none 0 0] 122)
  have A2 := At.new (w2.alloc (.cells #[.pointer none, .slice none 0 0] 122)) 122 #[.pointer none, .slice none 0 0]
  replace X := (X.alloc (.cells #[.pointer none, .slice none 0 0] 122)).alloc (.cells #[.pointer none, .slice none 0 0] 122)
  have n2 := F.size
  replace F := (F.alloc F.size (.cells #[.pointer none, .slice none 0 0] 122)).alloc (by rw [World.size_alloc]; omega) (.cells #[.pointer none, .slice none 0 0] 122)
  go_upto_region 4 with (fail)
  rw [World.size_alloc] at A2
  have hne : w2.heap.size ≠ w2.heap.size + 1 := by omega
  have n3 : w.heap.size ≤ w2.heap.size + 1 := by omega
  generalize w2.heap.size + 1 = D at A2 hne n3 ⊢
  generalize w2.heap.size = H at A1 hne n2 ⊢
  generalize (w2.alloc (.cells #[.pointer none, .slice none 0 0] 122)).alloc (.cells #[.pointer none, .slice none 0 0] 122) = w3 at A1 A2 X F ⊢
  have LX := sl_loads X hd
  go_wp2_with (refine wpl_load LX rfl rfl rfl ?_)
  have hH3 := A1.lt
  refine (wslip_any A2 x hc).mono ?_
  rintro e w4 ⟨rfl, ⟨M, hM, WB⟩, K⟩
  replace A1 := A1.keeps K A1.lt hne
  have hHM : H < M := Nat.lt_of_lt_of_le hH3 hM
  have hMn : w.heap.size ≤ M := Nat.le_trans F.size hM
  replace F := K.below F F.size n3
  clear LX X A2 K hM hH3
  go_wp2_with fail
  refine (len_any WB).mono ?_
  rintro e v4 ⟨rfl, rfl⟩
  have WH := fresh_wr A1 A1.lt (Nat.le_refl _)
  have hN := F.size
  go_wp2_with fail
  refine (wnumber_any WH ((bodyL x).length : Int) 2 (by decide) (by simp)).mono ?_
  rintro e w5 ⟨rfl, WH5, K5⟩
  rw [List.nil_append] at WH5
  clear WH A1
  go_wp2_with fail
  refine (text_any WH5 (be_ne _) (by rw [be_len]; decide)).mono ?_
  rintro e w6 ⟨rfl, WH6, K6⟩
  have WB6 := WB.keeps (K5.trans K6) (Nat.le_refl _) hHM (Ne.symm hne)
  replace F := (K5.trans K6).below F hN n2
  clear WB WH5 WH6 K5 K6 hN
  go_wp2_with fail
  refine (text_any WB6 BN.out (by omega)).mono ?_
  rintro e w7 ⟨rfl, WB7, K7⟩
  replace F := K7.below F hMn n3
  clear WB6 K7
  go_wp2_with fail
  refine (of_any (two_strs _ _ _) (by simp) (by
    intro s hs
    simp only [List.mem_cons, List.not_mem_nil, or_false] at hs
    rcases hs with rfl | rfl
    · rw [strOf_size, be_len]; decide
    · rw [strOf_size]; omega)).mono ?_
  rintro e v7 ⟨rfl, rfl⟩
  rw [allB_two, bl_strOf (be_lt _ _), bl_strOf BL.out]
  replace WB7 := WB7.below ((Below.refl _ _).alloc (Nat.le_refl _) (.cells #[.string (strOf (be 2 ((bodyL x).length : Int))), .string (strOf (bodyL x))] 9)) (Nat.le_refl _)
  replace F := F.alloc F.size (.cells #[.string (strOf (be 2 ((bodyL x).length : Int))), .string (strOf (bodyL x))] 9)
  generalize w7.alloc (.cells #[.string (strOf (be 2 ((bodyL x).length : Int))), .string (strOf (bodyL x))] 9) = w8 at WB7 F ⊢
  go_wp2_with fail
  refine (tail_any _ _ (mor_lt (by decide) (fun y hy => (List.mem_append.1 hy).elim (be_lt _ _ y) (BL.out y)))).mono ?_
  rintro e w9 ⟨rfl, G⟩
  replace WB7 := WB7.below G (Nat.le_refl _)
  replace F := F.trans (G.mono F.size)
  clear G
  go_wp2_with fail
  refine (text_any WB7 BN.out (by omega)).mono ?_
  rintro e w10 ⟨rfl, WB10, K10⟩
  replace F := K10.below F hMn n3
  clear WB7 WB10 K10
  have hz1 : (strOf (be 2 ((bodyL x).length : Int))).size ≤ 1000 := by rw [strOf_size, be_len]; decide
  have hz2 : (tl (mor 0 (be 2 ((bodyL x).length : Int) ++ bodyL x))).size ≤ 1000 := by rw [tl_size]; decide
  have hz3 : (strOf (bodyL x)).size ≤ 1000 := by rw [strOf_size]; omega
  go_wp2
  go_ret2
  exact ⟨by rw [← RT.out]; rfl, F⟩
end Go.Proofs.YtdmgobffhpgjlaaGreat.Sl
