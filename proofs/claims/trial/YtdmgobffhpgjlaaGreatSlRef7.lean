/-
  Contract of the document's All: the slips of records one behind the other.
-/
import Derived.Test.YtdmgobffhpgjlaaGreatSlRef6
import Derived.Test.YtdmgobffhpgjlaaGreatSlAll
import Derived.Great.BuildSlice

namespace Go.Proofs.YtdmgobffhpgjlaaGreat.Sl
open Go.RowKit Go.PlainAid Go.Proofs.YtdmgobffhpgjlaaGreat.Cr
set_option linter.unusedVariables false
set_option maxRecDepth 20000
set_option linter.unusedSimpArgs false

set_option maxHeartbeats 2000000 in
theorem rall_own (s : ByteArray) (w : World) (hs : s.size ≤ 1000000) :
    Calls Tryz.prog 44 #[.string s] w fun e w' => AllOwn (bl s) w e w' := by
  obtain ⟨i0, hi, hz0, hz1, hz2⟩ := info_parts infoSl
  have hbl := bl_len s
  go_enter Tryz.func44, Tryz.ntmps44
  have own0 := World.ownsRow_made (base := w.heap.size) (e := 39) (size := 38) w #[] 0 (Nat.le_refl _) (Nat.zero_le _) rfl
  have bel0 : Below w.heap.size w (w.alloc (.cells #[] 39)) := (Below.refl _ _).alloc (Nat.le_refl _) _
  go_upto_region 2 with (fail)
  generalize w.alloc (.cells #[] 39) = w1 at own0 bel0 ⊢
  go_wp2
  go_loopw [4, 5] (fun v i wr => ∃ (k : Nat) (xs : List Sp), k ≤ s.size ∧ i = .int .i64 k ∧ wr.ownsRow w.heap.size 39 38 v xs.length (slsL xs) ∧ Below w.heap.size w wr ∧ 6 * xs.length ≤ k ∧ AllInv (bl s) k xs) (fun _ i _ => s.size - (intOf i).toNat)
  case atStart => exact ⟨0, [], Nat.zero_le _, rfl, own0, bel0, Nat.le_refl _, allInv_start _⟩
  case round =>
    clear own0 bel0
    obtain ⟨k, xs, hk, rfl, own, bel, h6, INV⟩ := hrel
    have l1 : (k : Int) ≤ (s.size : Int) := by omega
    have l2 : (0 : Int) ≤ (k : Int) := by omega
    have hd : bl (s.extract k s.size) = (bl s).drop k := by
      rw [bl_extract]
      exact List.take_of_length_le (by rw [List.length_drop]; omega)
    have hz : (s.extract k s.size).size ≤ 1000000 := by rw [ByteArray.size_extract]; omega
    go_wp2_with fail
    refine (rread_any (s.extract k s.size) _ hz).mono ?_
    rintro e w2 ⟨rfl, G⟩
    rw [hd]
    clear hd hz
    have own2 := owns_below own G
    have bel2 := bel.trans (G.mono bel.size)
    clear own G bel
    have zdl : (RD ((bl s).drop k)).1.dig.length = 32 := rd_dig _
    obtain ⟨w3, S3, X3, G3, Z3⟩ := x_keep w2 zdl
    have own3 := owns_below own2 G3
    have bel3 := bel2.trans (G3.mono bel2.size)
    have LX := sl_loads X3 zdl
    have hN := bel3.size
    clear own2 bel2 G3 Z3
    by_cases c : (RD ((bl s).drop k)).2.2 = 0
    · obtain ⟨can, n, hn, hn6, hnl⟩ := rd_ok c
      rw [List.length_drop, hbl] at hnl
      have STEP := Lib.hid (INV.step c)
      rw [hn] at STEP ⊢
      rw [c]
      clear c
      have CAN := Lib.hid can
      clear can
      generalize hx : (RD ((bl s).drop k)).1 = x at S3 X3 LX STEP CAN zdl ⊢
      clear hx hn
      go_upto_region 6 with (refine wpl_store S3 rfl rfl rfl rfl rfl ?_)
      clear S3
      generalize w2.heap.size = X at X3 LX ⊢
      go_upto_region 7 with (first | refine wpl_load LX rfl rfl rfl ?_ | refine wpl_build (slV_size zdl) rfl rfl rfl ?_ | (at_builtin; refine wpList_append_own _ rfl _ _ 29 rfl w.heap.size 39 i0 (.agg #[.int .i64 0, .string ⟨#[]⟩, .string ⟨#[]⟩, .int .u8 0, .int .u8 0, .int .u8 0, .int .u8 0, .int .u8 0, .int .u8 0, .int .u8 0, .int .u8 0, .int .u8 0, .int .u8 0, .int .u8 0, .int .u8 0, .int .u8 0, .int .u8 0, .int .u8 0, .int .u8 0, .int .u8 0, .int .u8 0, .int .u8 0, .int .u8 0, .int .u8 0, .int .u8 0, .int .u8 0, .int .u8 0, .int .u8 0, .int .u8 0, .int .u8 0, .int .u8 0, .int .u8 0, .int .u8 0, .int .u8 0, .int .u8 0, .string ⟨#[]⟩, .int .i64 0, .int .i64 0]) 38 104 Tryz.underlying29 hi hz0 hz1 hz2 rfl (by decide) _ _ _ rfl (own3.alloc _) ⟨w3.heap.size, 0, none⟩ 1 1 (slL x) rfl ?c0 ?c1 (slL_one x) ?c3 ?c4 ?c5 ?_))
      case c0 => rw [slL_len zdl]
      case c1 => exact new_cells w3 x
      case c3 => unfold maxLen; omega
      case c4 => omega
      case c5 => simp; omega
      intro v' w4 own4 hgrow _
      have own5 : w4.ownsRow w.heap.size 39 38 v' (xs ++ [x]).length (slsL (xs ++ [x])) := by
        rw [slsL_snoc, List.length_append]
        exact own4
      have bel5 := (bel3.alloc bel3.size (.cells (slV x) 39)).grown hgrow (by simp; omega) (fun j hj => (own3.lt j hj).1)
      clear own4 own3 bel3 hgrow LX X3
      go_wp2
      go_roundw
      case rel => exact ⟨k + n, xs ++ [x], by omega, by go_num, own5, bel5, by rw [List.length_append]; simp; omega, STEP.out n rfl⟩
      case measure => simp [intOf]; omega
    · obtain ⟨z1, z2, z3⟩ := rd_err c
      have FIN := Lib.hid (INV.stop c)
      have hne : ((RD ((bl s).drop k)).2.2 != 0) = true := by simpa using c
      have hne2 : ¬ (RD ((bl s).drop k)).2.2 = 0 := c
      clear z1 z2 z3 c
      generalize (RD ((bl s).drop k)).2.2 = er at hne hne2 ⊢
      generalize (RD ((bl s).drop k)).2.1 = nn at ⊢
      generalize (RD ((bl s).drop k)).1 = x at S3 X3 LX ⊢
      go_wp2_with (refine wpl_store S3 rfl rfl rfl rfl rfl ?_)
      go_ret2
      exact ⟨xs, k, _, rfl, own3, FIN.out.2, FIN.out.1, bel3⟩
end Go.Proofs.YtdmgobffhpgjlaaGreat.Sl
