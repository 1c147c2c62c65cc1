/-
  The document's examples of layer 10: awake answers true.
-/
import Derived.Test.YtdimjeajgmlfkaaDoorFiSame
import Derived.Test.YtdimjeajgmlfkaaDoorFiEls
import Derived.Test.YtdimjeajgmlfkaaDoorFiSplit2
namespace Go.Proofs.YtdimjeajgmlfkaaDoor.Fi
open Go.RowKit Go.PlainAid
open Hx
set_option linter.unusedVariables false
set_option maxRecDepth 20000
set_option linter.unusedSimpArgs false

def lHost : ByteArray := ⟨#[72, 111, 115, 116, 58, 32, 97, 32, 98, 32]⟩
def fHost : Fd := ⟨⟨#[72, 111, 115, 116]⟩, ⟨#[97, 32, 98]⟩⟩
def lBad : ByteArray := ⟨#[72, 111, 115, 116, 32, 58, 32, 97]⟩
def fX : Fd := ⟨⟨#[88]⟩, ⟨#[97, 44, 32, 34, 98, 44, 99, 34, 32, 44, 44, 100]⟩⟩
def fA : Fd := ⟨⟨#[65]⟩, ⟨#[49]⟩⟩
def sGet : ByteArray := ⟨#[71, 69, 84, 32, 47, 32, 72, 84, 84, 80, 47, 49, 46, 49]⟩
def tGet : ByteArray := ⟨#[71, 69, 84, 32, 47, 32, 72, 84, 84, 80, 47, 49, 46, 49, 13, 10, 65, 58, 32, 49, 13, 10, 13, 10, 114, 101, 115, 116]⟩
def tCut : ByteArray := ⟨#[71, 69, 84, 32, 47, 13, 10, 65, 58, 32, 49, 13, 10, 13]⟩
theorem host_is : parseF (ls lHost) = some fHost := by kernel_rfl
theorem bad_is : parseF (ls lBad) = none := by kernel_rfl
theorem x_is : elemsF (ls ⟨#[120]⟩) [fX] = [⟨#[97]⟩, ⟨#[34, 98, 44, 99, 34]⟩, ⟨#[100]⟩] := by kernel_rfl
theorem fA_good : ∀ f ∈ [fA], Good f := by
  intro f hf
  simp only [List.mem_singleton] at hf
  subst hf
  exact (good_iff fA).1 (by kernel_rfl)
theorem get_head : spl (headF (ls sGet) [fA]) = ⟨0, ls sGet, [fA], 24⟩ := by
  have := spl_head (ls sGet) [fA] (by decide) (by decide) (by decide) (by decide) fA_good (by decide) (by decide)
  rw [this]
  congr 1
theorem get_is : spl (ls tGet) = ⟨0, ls sGet, [fA], 24⟩ := by
  have e : ls tGet = headF (ls sGet) [fA] ++ [114, 101, 115, 116] := by kernel_rfl
  rw [e, spl_more _ _ (by rw [get_head]; decide), get_head]
theorem cut_is : (spl (ls tCut)).err = 17 := by
  have h := spl_head [71, 69, 84, 32, 47] [fA] (by decide) (by decide) (by decide) (by decide) fA_good (by decide) (by decide)
  have e : ls tCut = (headF [71, 69, 84, 32, 47] [fA]).take 14 := by kernel_rfl
  rw [e]
  exact spl_cut _ _ h 14 (by decide)
theorem one_fds (w : World) (f : Fd) : FdsAt (w.alloc (.cells (fdV f) 23)) (.slice (some ⟨w.heap.size, 0, none⟩) 1 1) [f] := by
  refine ⟨_, 1, rfl, Nat.le_refl _, fun j x hj => ⟨_, rfl, by simp, fun i c hi => ?_⟩⟩
  have hj0 : j = 0 := by
    have := (List.getElem?_eq_some_iff.1 hj).1
    simp at this; exact this
  subst hj0
  obtain rfl : f = x := by simpa using hj
  exact new_fd w f i c hi
theorem three_strs (w : World) (s t u : ByteArray) : StrsAt (w.alloc (.cells #[.string s, .string t, .string u] 9)) (.slice (some ⟨w.heap.size, 0, none⟩) 3 3) [s, t, u] := by
  refine ⟨some ⟨w.heap.size, 0, none⟩, 3, rfl, Nat.le_refl _, fun j x hx => ⟨_, rfl, by simp, ?_⟩⟩
  rw [add_at, Nat.zero_add, cell_of_row _ _ _ _ _ _ (heap_alloc_new w _)]
  rcases j with _ | _ | _ | j
  · simp at hx; subst hx; rfl
  · simp at hx; subst hx; rfl
  · simp at hx; subst hx; rfl
  · simp at hx
theorem parse_host (w : World) : Calls Tryd.prog 10 #[.string ⟨#[72, 111, 115, 116, 58, 32, 97, 32, 98, 32]⟩] w fun e w' => e = .returned (.tuple #[.agg (fdV fHost), .int .i64 0]) ∧ Below w.heap.size w w' := by
  have h := parse_any lHost w (by decide)
  unfold ParsePost at h
  rw [(p_some host_is).1, (p_some host_is).2] at h
  exact h
theorem parse_bad (w : World) : Calls Tryd.prog 10 #[.string ⟨#[72, 111, 115, 116, 32, 58, 32, 97]⟩] w fun e w' => e = .returned (.tuple #[.agg (fdV Fd.zero), .int .i64 3]) ∧ Below w.heap.size w w' := by
  have h := parse_any lBad w (by decide)
  unfold ParsePost at h
  rw [(p_none bad_is).1, (p_none bad_is).2] at h
  exact h
theorem split_get (w : World) : Calls Tryd.prog 18 #[.string ⟨#[71, 69, 84, 32, 47, 32, 72, 84, 84, 80, 47, 49, 46, 49, 13, 10, 65, 58, 32, 49, 13, 10, 13, 10, 114, 101, 115, 116]⟩] w fun e w' => ∃ base cap, e = .returned (.tuple #[.string ⟨#[71, 69, 84, 32, 47, 32, 72, 84, 84, 80, 47, 49, 46, 49]⟩, .slice base 1 cap, .int .i64 24, .int .i64 0]) ∧ Below w.heap.size w w' := by
  have h := split_any tGet w (by decide)
  rw [get_is] at h
  refine h.mono fun e w' ⟨v, he, hv, hb⟩ => ?_
  obtain ⟨base, cap, rfl, _⟩ := hv.is
  exact ⟨base, cap, he, hb⟩
theorem split_cut (w : World) : Calls Tryd.prog 18 #[.string ⟨#[71, 69, 84, 32, 47, 13, 10, 65, 58, 32, 49, 13, 10, 13]⟩] w fun e w' => ∃ s v n, e = .returned (.tuple #[.string s, v, .int .i64 n, .int .i64 17]) ∧ Below w.heap.size w w' := by
  have h := split_any tCut w (by decide)
  refine h.mono fun e w' ⟨v, he, hv, hb⟩ => ?_
  rw [cut_is] at he
  exact ⟨_, v, _, he, hb⟩
theorem x_short : Short [fX] := ⟨by decide, by intro x hx; simp at hx; subst hx; decide, by intro x hx; simp at hx; subst hx; decide⟩
set_option maxRecDepth 100000 in
set_option maxHeartbeats 4000000 in
theorem awake_any (w : World) : Calls Tryd.prog 9 #[] w fun e w' => e = .returned (.bool true) ∧ Below w.heap.size w w' := by
  go_enter Tryd.func9, Tryd.ntmps9
  go_wp2_with fail
  refine (parse_host _).mono ?_
  rintro e w1 ⟨rfl, F1⟩
  obtain ⟨w2, S2, A2, G2, Z2⟩ := fd_keep w1 fHost
  have F2 := F1.trans (G2.mono F1.size)
  go_upto_region 2 with (refine wpl_store S2 rfl rfl rfl rfl rfl ?_)
  clear S2 G2 Z2 F1
  generalize w1.heap.size = B1 at A2 ⊢
  go_wp2_with fail
  refine (parse_bad _).mono ?_
  rintro e w3 ⟨rfl, G3⟩
  have A3 := A2.old G3
  have F3 := F2.trans (G3.mono F2.size)
  clear A2 F2 G3
  obtain ⟨w4, S4, A4, G4, Z4⟩ := fd_keep w3 Fd.zero
  replace A3 := A3.old G4
  have F4 := F3.trans (G4.mono F3.size)
  go_upto_region 3 with (refine wpl_store S4 rfl rfl rfl rfl rfl ?_)
  clear S4 G4 Z4 F3 A4
  generalize w3.heap.size = B3 at ⊢
  have r5 : Calls Tryd.prog 23 #[.slice (some ⟨w4.heap.size, 0, none⟩) 1 1, .string ⟨#[120]⟩] (w4.alloc (.cells (fdV fX) 23)) fun e w' => ∃ v', e = .returned v' ∧ OwnS (w4.alloc (.cells (fdV fX) 23)) w' v' [⟨#[97]⟩, ⟨#[34, 98, 44, 99, 34]⟩, ⟨#[100]⟩] := by
    have := elements_any (w := w4.alloc (.cells (fdV fX) 23)) ⟨#[120]⟩ (one_fds w4 fX) (by decide) x_short
    rw [x_is] at this
    exact this
  have A5 := A3.alloc (.cells (fdV fX) 23)
  have F5 := F4.alloc F4.size (.cells (fdV fX) 23)
  clear A3 F4
  go_wp2_with (refine wpl_build (cs := fdV fX) rfl rfl rfl rfl ?_)
  refine r5.mono ?_
  rintro e w6 ⟨v6, rfl, own6, G6⟩
  replace A5 := A5.old G6
  replace F5 := F5.trans (G6.mono F5.size)
  have V6 := owns_strs own6
  clear own6 G6 r5
  go_wp2_with fail
  refine (split_get _).mono ?_
  rintro e w7 ⟨base, cap, rfl, G7⟩
  replace A5 := A5.old G7
  replace F5 := F5.trans (G7.mono F5.size)
  replace V6 := V6.below G7
  clear G7
  go_wp2_with fail
  refine (split_cut _).mono ?_
  rintro e w8 ⟨s8, v8, n8, rfl, G8⟩
  replace A5 := A5.old G8
  replace F5 := F5.trans (G8.mono F5.size)
  replace V6 := V6.below G8
  clear G8
  have LX : Loads Tryd.prog w8 23 ⟨B1, 0, none⟩ #[.string ⟨#[72, 111, 115, 116]⟩, .string ⟨#[97, 32, 98]⟩] := fd_loads A5
  have q1 : ∀ x, (Op.equalIn 10000 23 (.agg #[.string ⟨#[72, 111, 115, 116]⟩, .string ⟨#[97, 32, 98]⟩]) (.agg #[.string ⟨#[72, 111, 115, 116]⟩, .string ⟨#[97, 32, 98]⟩])).run Tryd.prog x = .ok true x := fun x => by
    have := eq_fd fHost fHost x
    rw [@decide_eq_true _ (Classical.propDecidable _) rfl] at this
    exact this
  have T8 := textsR_any (V6.below ((Below.refl _ w8).alloc (Nat.le_refl _) (.cells #[.string ⟨#[97]⟩, .string ⟨#[34, 98, 44, 99, 34]⟩, .string ⟨#[100]⟩] 9))) (three_strs w8 ⟨#[97]⟩ ⟨#[34, 98, 44, 99, 34]⟩ ⟨#[100]⟩) (by decide) (by decide)
  rw [textB_yes rfl] at T8
  have F8 := F5.alloc F5.size (.cells #[.string ⟨#[97]⟩, .string ⟨#[34, 98, 44, 99, 34]⟩, .string ⟨#[100]⟩] 9)
  clear A5 V6 F5
  go_wp2_with (refine wpl_load LX rfl rfl rfl ?_)
  refine T8.mono ?_
  rintro e w9 ⟨rfl, G9⟩
  clear T8 LX q1
  go_wp2
  go_ret
  exact ⟨rfl, F8.trans (G9.mono F8.size)⟩
end Go.Proofs.YtdimjeajgmlfkaaDoor.Fi
