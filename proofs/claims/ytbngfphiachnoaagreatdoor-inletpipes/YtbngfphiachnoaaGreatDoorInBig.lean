/-
  Contracts of the library's Cut and Clone at texts of whatever length there may be.
-/
import Derived.Test.YtbngfphiachnoaaGreatDoorInText
import Derived.Test.YtbngfphiachnoaaGreatDoorFiSplit2
import Derived.Test.YtbngfphiachnoaaGreatDoorFiQuo
import Derived.Deep.DeepCutAuto
namespace Go.Proofs.YtbngfphiachnoaaGreatDoor.InB
open Go.RowKit Go.PlainAid
open Hx Fi Ch In
set_option linter.unusedVariables false
set_option maxRecDepth 20000
set_option linter.unusedSimpArgs false

set_option maxRecDepth 100000 in
theorem index_any (s : ByteArray) (b : UInt8) (w : World) (h : s.size ≤ 281474976710656) :
    Calls Tryz.prog 86 #[.string s, .string ⟨#[b]⟩] w fun e w' => e = .returned (.int .i64 (firstIdx s b)) ∧ w = w' := by
  have r := lowIndex_any s (b.toNat : Int) w
  have eb : ((b.toNat : Int)).toNat.toUInt8 = b := by simp
  rw [eb] at r
  clear eb
  cases c : ([b] == s.toList) with
  | true =>
    have e : s = ⟨#[b]⟩ := by
      rw [ByteArray.toList_eq, beq_iff_eq] at c
      cases s with | mk d => congr 1; apply Array.toList_inj.1; rw [← c]
    rw [e]
    rw [show firstIdx ⟨#[b]⟩ b = 0 by
      rcases idx_cases ⟨#[b]⟩ b with ⟨_, h2⟩ | ⟨i, h1, h2, _⟩
      · exact absurd (cutB_none.1 h2) (by simp [ls])
      · have : i = 0 := by have : (⟨#[b]⟩ : ByteArray).size = 1 := rfl
                           omega
        rw [h1, this]; rfl]
    clear r c e
    go_enter Tryz.func86, Tryz.ntmps86
    go_wp2
    all_goals go_ret
    all_goals exact ⟨rfl, rfl⟩
  | false =>
  generalize firstIdx s b = z at *
  go_enter Tryz.func86, Tryz.ntmps86
  go_wp2_with fail
  refine r.mono ?_
  rintro e w' ⟨rfl, rfl⟩
  clear r
  go_wp2
  all_goals go_ret
  all_goals exact ⟨rfl, rfl⟩
theorem lite_no (s : ByteArray) (b : UInt8) (w : World) (h : s.size ≤ 281474976710656) (hi : firstIdx s b = -1) :
    Calls Tryz.prog 62 #[.string s, .string ⟨#[b]⟩] w fun e w' => e = .returned (.tuple #[.string s, .string ⟨#[]⟩, .bool false]) ∧ Below w.heap.size w w' := by
  have r := index_any s b w h
  rw [hi] at r
  go_enter Tryz.func62, Tryz.ntmps62
  go_wp2_with fail
  refine r.mono ?_
  rintro e w' ⟨rfl, rfl⟩
  clear r
  go_wp2
  all_goals go_ret3
  all_goals exact ⟨rfl, Below.refl _ _⟩
theorem lite_yes (s : ByteArray) (b : UInt8) (w : World) (h : s.size ≤ 281474976710656) (i : Nat) (hi : firstIdx s b = i) (hs : i < s.size) :
    Calls Tryz.prog 62 #[.string s, .string ⟨#[b]⟩] w fun e w' => e = .returned (.tuple #[.string (s.extract 0 i), .string (s.extract (i + 1) s.size), .bool true]) ∧ Below w.heap.size w w' := by
  have r := index_any s b w h
  rw [hi] at r
  have i1 : (i : Int) ≤ (s.size : Int) := by omega
  have i2 : (i : Int) + 1 ≤ (s.size : Int) := by omega
  go_enter Tryz.func62, Tryz.ntmps62
  go_wp2_with fail
  refine r.mono ?_
  rintro e w' ⟨rfl, rfl⟩
  clear r
  go_wp2
  go_region
  all_goals go_wp2
  all_goals go_ret3
  all_goals exact ⟨rfl, (Below.refl _ _).drew⟩
theorem cut_no (s : ByteArray) (b : UInt8) (w : World) (h : s.size ≤ 281474976710656) (hc : cutB b (ls s) = none) :
    Calls Tryz.prog 33 #[.string s, .string ⟨#[b]⟩] w fun e w' => e = .returned (.tuple #[.string s, .string ⟨#[]⟩, .bool false]) ∧ Below w.heap.size w w' := by
  have hi : firstIdx s b = -1 := by
    rcases idx_cases s b with ⟨h1, _⟩ | ⟨i, _, _, h3⟩
    · exact h1
    · rw [hc] at h3; cases h3
  clear hc
  go_enter Tryz.func33, Tryz.ntmps33
  go_wp2_with fail
  refine (lite_no s b w h hi).mono ?_
  rintro e w' ⟨rfl, hb⟩
  clear hi
  go_wp2
  all_goals go_ret3
  all_goals exact ⟨rfl, hb⟩
theorem cut_yes (s : ByteArray) (b : UInt8) (w : World) (h : s.size ≤ 281474976710656) {x y : List UInt8} (hc : cutB b (ls s) = some (x, y)) :
    Calls Tryz.prog 33 #[.string s, .string ⟨#[b]⟩] w fun e w' => e = .returned (.tuple #[.string (tx x), .string (tx y), .bool true]) ∧ Below w.heap.size w w' := by
  obtain ⟨i, hi, hs, h3⟩ : ∃ i : Nat, firstIdx s b = i ∧ i < s.size ∧ cutB b (ls s) = some ((ls s).take i, (ls s).drop (i + 1)) := by
    rcases idx_cases s b with ⟨_, h1⟩ | h1
    · rw [hc] at h1; cases h1
    · exact h1
  rw [hc] at h3
  simp only [Option.some.injEq, Prod.mk.injEq] at h3
  have e1 : s.extract 0 i = tx x := ls_inj (by rw [ls_extract, ls_tx, h3.1]; simp)
  have e2 : s.extract (i + 1) s.size = tx y := ls_inj (by rw [ls_extract, ls_tx, h3.2]; exact List.take_of_length_le (by rw [List.length_drop, ls_len]; exact Nat.le_refl _))
  have r := lite_yes s b w h i hi hs
  rw [e1, e2] at r
  clear e1 e2 h3 hc hi hs
  generalize tx x = x1 at *
  generalize tx y = y1 at *
  go_enter Tryz.func33, Tryz.ntmps33
  go_wp2_with fail
  refine r.mono ?_
  rintro e w' ⟨rfl, hb⟩
  clear r
  go_wp2
  all_goals go_ret3
  all_goals exact ⟨rfl, hb⟩
set_option maxHeartbeats 2000000 in
theorem clone_low (s : ByteArray) (w : World) (hs : s.size ≤ 281474976710656) :
    Calls Tryz.prog 66 #[.string s] w fun e w' => e = .returned (.string s) ∧ Below w.heap.size w w' := by
  by_cases h0 : s.size = 0
  · have e := empty_of h0
    subst e
    clear h0
    go_enter Tryz.func66, Tryz.ntmps66
    go_wp2
    go_ret
    exact ⟨rfl, Below.refl _ _⟩
  · obtain ⟨i0, hi, hz0, hz1, hz2⟩ := info_parts info5
    have l1 : ((s.size : Int) == 0) = false := by rw [beq_eq_false_iff_ne]; omega
    have l2 : ¬ (s.size : Int) = 0 := by omega
    go_enter Tryz.func66, Tryz.ntmps66
    go_upto_region 4 with (at_make; refine wpList_make_full _ rfl _ _ 55 rfl w.heap.size 5 i0 (.int .u8 0) 1 Tryz.underlying55 hi hz0 hz1 .i64 .i64 _ _ s.size rfl rfl (by omega) (by omega) (by rw [hz2]; omega) (by unfold maxLen; omega) (Nat.le_refl _) ?_; intro w1 hown hgrow)
    obtain ⟨cur, hg, hcs⟩ : ∃ cur, w1.heap[w.heap.size]? = some (.cells cur 5 (0, 0)) ∧ cur.size = s.size := by
      rcases hown.2 with ⟨e, _⟩ | ⟨g, cap, cur, e, _, hg, _, _, hc, _⟩
      · cases e
      · injection e with e1 _ e3
        injection e1 with e1
        injection e1 with e1
        subst e1 e3
        exact ⟨cur, hg, by simpa using hc⟩
    have F : Below w.heap.size w w1 := (Below.refl _ _).grown hgrow (Nat.le_refl _) (fun k h => by cases h)
    have hcp := fun ty => Lib.run_copy_row_string (P := Tryz.prog) w1 55 9 ty 5 w.heap.size 0 s.size s.size s cur 5 Tryz.underlying55 (by kernel_rfl) hg (Nat.le_refl _) (by omega)
    have e2 : (cur.toList.take 0 ++ Lib.byteCells s.data.toList ++ cur.toList.drop (0 + s.size)).toArray = (Lib.byteCells s.data.toList).toArray := by
      rw [Nat.zero_add, List.drop_of_length_le (by simp; omega)]
      simp
    rw [e2] at hcp
    have H2 := setRow_heap w1 w.heap.size cur (Lib.byteCells s.data.toList).toArray 5 (0, 0) hg
    have F2 : Below w.heap.size w (w1.setRow w.heap.size (Lib.byteCells s.data.toList).toArray) := below_row F (Nat.le_refl _)
    clear e2 hg hown hgrow F hcs
    generalize w1.setRow w.heap.size (Lib.byteCells s.data.toList).toArray = w2 at hcp H2 F2
    have hlen : s.data.toList.length = s.size := by simp
    have hUS := Lib.run_unsafeString_row (P := Tryz.prog) w2 114 3 9 5 Tryz.underlying114 (by kernel_rfl) w.heap.size s.size (by simp [World.shape?, H2, Lib.byteCells]) s.data.toList (by intro c; rw [c] at hlen; simp at hlen; omega) (by omega) (by omega) (by
      intro j x hx
      rw [add_at, Nat.zero_add, cell_of_row _ _ _ _ _ _ H2]
      simp [Lib.byteCells, hx])
    rw [hlen] at hUS
    have e3 : (⟨s.data.toList.toArray⟩ : ByteArray) = s := by simp
    rw [e3] at hUS
    have F3 := Lib.below_freeze F2 (p := ⟨w.heap.size, 0, none⟩) (Nat.le_refl _) s.size
    clear e3 hlen F2 H2
    have l3 : (0 : Int) < (s.size : Int) := by omega
    go_wp2_with (refine wpl_copy hcp rfl rfl rfl rfl ?_)
    go_ret
    exact ⟨rfl, F3⟩
theorem clone_any (s : ByteArray) (w : World) (hs : s.size ≤ 281474976710656) :
    Calls Tryz.prog 37 #[.string s] w fun e w' => e = .returned (.string s) ∧ Below w.heap.size w w' := by
  go_enter Tryz.func37, Tryz.ntmps37
  go_wp2_with fail
  refine (clone_low s _ hs).mono ?_
  rintro e w1 ⟨rfl, G⟩
  go_wp2
  go_ret
  exact ⟨rfl, G⟩
end Go.Proofs.YtbngfphiachnoaaGreatDoor.InB
