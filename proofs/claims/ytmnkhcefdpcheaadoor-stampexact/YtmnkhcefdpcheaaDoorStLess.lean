/-
  Contracts of Less and Of: which digest stands ahead; the digest of a text.
-/
import Derived.Test.YtmnkhcefdpcheaaDoorStText
import Derived.BigQuiet
namespace Go.Proofs.YtmnkhcefdpcheaaDoor.St
open Go.RowKit Go.PlainAid Go.Proofs.YtmnkhcefdpcheaaDoor.Sh
open Go.Extern.Stop (cell)
set_option linter.unusedVariables false

/-- whether, at the first byte in which they differ, a's is below b's -/
def lessL : List Nat → List Nat → Bool
  | x :: a, y :: b => if x = y then lessL a b else decide (x < y)
  | _, _ => false
theorem eq_any {a b : List Nat} (ha : Dig a) (hb : Dig b) (w : World) : (Op.equalIn 10000 23 (.agg (vals .u8 a).toArray) (.agg (vals .u8 b).toArray)).run Tryd.prog w = .ok (decide (a = b)) w := by
  rw [cells_of ha.lt, cells_of hb.lt]
  have := run_equalIn_bytes (P := Tryd.prog) w 9998 23 5 32 Tryd.underlying23 Tryd.underlying5 (fun w => size_of (by kernel_rfl) w) (u8s a) (u8s b) (by rw [u8s_len, ha.len]) (by rw [u8s_len, hb.len])
  have e : (u8s a == u8s b) = decide (a = b) := by
    by_cases h : a = b
    · simp [h]
    · have : ¬ u8s a = u8s b := fun h' => h (by rw [← u8s_back ha, ← u8s_back hb, h'])
      simp [h, this]
  rw [e] at this
  exact this

theorem less_drop : ∀ (k : Nat) (a b : List Nat), a.take k = b.take k → a.length = b.length → lessL a b = lessL (a.drop k) (b.drop k)
  | 0, a, b, _, _ => by simp
  | k + 1, [], [], _, _ => by simp
  | k + 1, [], y :: b, _, hl => by simp at hl
  | k + 1, x :: a, [], _, hl => by simp at hl
  | k + 1, x :: a, y :: b, h, hl => by
    simp only [List.take_succ_cons, List.cons.injEq] at h
    rw [lessL, if_pos h.1, List.drop_succ_cons, List.drop_succ_cons]
    exact less_drop k a b h.2 (by simpa using hl)
theorem less_at {a b : List Nat} {k : Nat} (ha : k < a.length) (hl : a.length = b.length) (h : a.take k = b.take k) (hne : ¬ at0 a k = at0 b k) : lessL a b = decide (at0 a k < at0 b k) := by
  have hb : k < b.length := by omega
  rw [at0_lt ha, at0_lt hb] at hne ⊢
  rw [less_drop k a b h hl, List.drop_eq_getElem_cons ha, List.drop_eq_getElem_cons hb, lessL, if_neg hne]
theorem less_self : ∀ a : List Nat, lessL a a = false
  | [] => rfl
  | x :: a => by rw [lessL, if_pos rfl]; exact less_self a
theorem take_more {a b : List Nat} {k : Nat} (ha : k < a.length) (hl : a.length = b.length) (h : a.take k = b.take k) (he : at0 a k = at0 b k) : a.take (k + 1) = b.take (k + 1) := by
  rw [List.take_succ_eq_append_getElem ha, List.take_succ_eq_append_getElem (by omega), h]
  rw [at0_lt ha, at0_lt (by omega)] at he
  rw [he]
/-- what holds at each round of Less -/
structure Two (w wr : World) (a b : List Nat) : Prop where
  a : Blk wr w.heap.size .u8 23 a
  b : Blk wr (w.heap.size + 1) .u8 23 b
  bel : Below w.heap.size w wr
theorem Two.heap {w wr wr' : World} {a b : List Nat} (h : Two w wr a b) (e : wr'.heap = wr.heap) (e1 : wr'.os = wr.os) (e2 : wr'.tape = wr.tape) (e3 : wr'.output = wr.output) : Two w wr' a b :=
  ⟨⟨by rw [e]; exact h.a.heap⟩, ⟨by rw [e]; exact h.b.heap⟩, ⟨by rw [e1]; exact h.bel.os, by rw [e2]; exact h.bel.tape, by rw [e3]; exact h.bel.output, by rw [e]; exact h.bel.size, by rw [e]; exact h.bel.block⟩⟩
theorem Two.drew {w wr : World} {a b : List Nat} (h : Two w wr a b) : Two w wr.drew a b := ⟨h.a.drew, h.b.drew, h.bel.drew⟩
theorem two_new (w : World) (a b : List Nat) : Two w ((w.alloc (.cells (vals .u8 a).toArray 23)).alloc (.cells (vals .u8 b).toArray 23)) a b := by
  refine ⟨(Blk.new _ _ _ _).alloc _, ?_, (((Below.refl _ _).alloc (Nat.le_refl _) _).alloc (by simp) _)⟩
  have := Blk.new (w.alloc (.cells (vals .u8 a).toArray 23)) .u8 23 b
  simpa using this

set_option maxRecDepth 100000 in
set_option maxHeartbeats 1000000 in
theorem less_any {a b : List Nat} (ha : Dig a) (hb : Dig b) (w : World) :
    Calls Tryd.prog 14 #[.agg (vals .u8 a).toArray, .agg (vals .u8 b).toArray] w fun e w' => e = .returned (.bool (lessL a b)) ∧ Below w.heap.size w w' := by
  have HA := Lib.hid ha
  have HB := Lib.hid hb
  have T := two_new w a b
  have E := eq_any ha hb
  clear ha hb
  go_enter Tryd.func14, Tryd.ntmps14
  go_upto_region 1 with (fail)
  generalize ((w.alloc (.cells (vals .u8 a).toArray 23)).alloc (.cells (vals .u8 b).toArray 23)) = X at T ⊢
  have L1 := T.a.loads (P := Tryd.prog) (ty := 23) (by kernel_rfl) (by rw [HA.out.len]; kernel_rfl)
  have L2 := T.b.loads (P := Tryd.prog) (ty := 23) (by kernel_rfl) (by rw [HB.out.len]; kernel_rfl)
  by_cases h : a = b
  · have hd : decide (a = b) = true := by simp [h]
    have H := Lib.hid h
    clear h
    go_wp2_with (first | refine wpl_load L1 rfl rfl rfl ?_ | refine wpl_load L2 rfl rfl rfl ?_)
    go_ret
    rw [H.out, less_self]
    exact ⟨rfl, T.bel⟩
  · have hd : decide (a = b) = false := by simp [h]
    have H := Lib.hid h
    clear h
    go_wp2_with (first | refine wpl_load L1 rfl rfl rfl ?_ | refine wpl_load L2 rfl rfl rfl ?_)
    clear L1 L2 E hd
    go_loopw [5] (fun i wr => ∃ k : Nat, k < 32 ∧ i = .int .i64 k ∧ a.take k = b.take k ∧ Two w wr a b) (fun i _ => 32 - (intOf i).toNat)
    case atStart => exact ⟨0, by decide, rfl, by simp, T⟩
    case round =>
      clear T
      obtain ⟨k, hk, rfl, ht, T⟩ := hrel
      have c1 := T.a.cell (j := k) (by rw [HA.out.len]; exact hk)
      have c2 := T.b.cell (j := k) (by rw [HB.out.len]; exact hk)
      have l1 : (k : Int) < 32 := by omega
      by_cases he : at0 a k = at0 b k
      · have g : ((at0 a k : Int) == (at0 b k : Int)) = true := by rw [he]; simp
        have HE := Lib.hid he
        clear he
        go_wp2
        go_quiet (fail)
        go_wp2
        have hm := take_more (k := k) (by rw [HA.out.len]; exact hk) (by rw [HA.out.len, HB.out.len]) ht HE.out
        have hk2 : k + 1 < 32 := by
          rcases Nat.lt_or_ge (k + 1) 32 with h | h
          · exact h
          · rw [List.take_of_length_le (by rw [HA.out.len]; omega), List.take_of_length_le (by rw [HB.out.len]; omega)] at hm
            exact absurd hm H.out
        go_roundw
        case rel => exact ⟨k + 1, hk2, by go_num, hm, T.heap rfl rfl rfl rfl⟩
        case measure => simp [intOf]; omega
      · have g : ((at0 a k : Int) == (at0 b k : Int)) = false := by simp; omega
        have HE := Lib.hid he
        clear he
        go_wp2
        go_quiet (fail)
        have T2 : Two w (wr.drewN nq) a b := T.heap rfl rfl rfl rfl
        clear T c1 c2
        generalize wr.drewN nq = wr2 at T2 ⊢
        have c1 := T2.a.cell (j := k) (by rw [HA.out.len]; exact hk)
        have c2 := T2.b.cell (j := k) (by rw [HB.out.len]; exact hk)
        go_wp2
        go_quiet (fail)
        go_wp2
        go_ret
        refine ⟨?_, (T2.heap (wr' := wr2.drewN _) rfl rfl rfl rfl).bel⟩
        rw [less_at (k := k) (by rw [HA.out.len]; exact hk) (by rw [HA.out.len, HB.out.len]) ht HE.out]
        congr 3
end Go.Proofs.YtmnkhcefdpcheaaDoor.St
