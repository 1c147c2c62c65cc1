/-
  Contract of recordsOf: all records of a row of slips, one behind the other; or none, if one of them can't be.
-/
import Derived.Test.YtdmgobffhpgjlaaGreatDgBld
namespace Go.Proofs.YtdmgobffhpgjlaaGreat.Sl.Dg
open Go.RowKit Go.PlainAid Go.Proofs.YtdmgobffhpgjlaaGreat.Cr
set_option linter.unusedVariables false
set_option maxRecDepth 20000
set_option linter.unusedSimpArgs false

theorem recs_snoc_take {xs : List Sp} {k : Nat} {x : Sp} (h : xs[k]? = some x) : recs (xs.take (k + 1)) = recs (xs.take k) ++ recL (bodyL x) := by
  rw [List.take_add_one, h, recs_append]
  simp [recs_one]
theorem can_snoc {xs : List Sp} {k : Nat} {x : Sp} (h : xs[k]? = some x) (hx : Can x) (hc : ∀ y ∈ xs.take k, Can y) : ∀ y ∈ xs.take (k + 1), Can y := by
  intro y hy
  rw [List.take_add_one, h] at hy
  rcases List.mem_append.1 hy with c | c
  · exact hc y c
  · simp at c; subst c; exact hx
theorem all_no {xs : List Sp} {k : Nat} {x : Sp} (h : xs[k]? = some x) (hx : ¬ Can x) : xs.all canB = false := by
  rw [List.all_eq_false]
  exact ⟨x, List.mem_of_getElem? h, by rw [canB_no hx]; simp⟩
def RecsPost (xs : List Sp) (w : World) (e : Ending) (w' : World) : Prop := (xs.all canB = true ∧ e = .returned (.tuple #[.string (Cr.strOf (recs xs)), .int .i64 0]) ∨ xs.all canB = false ∧ e = .returned (.tuple #[.string ⟨#[]⟩, .int .i64 1])) ∧ Below w.heap.size w w'
set_option maxHeartbeats 400000 in
theorem records_none {v0 : Value} {w : World} (hv : SlsAt w v0 []) :
    Calls Tryz.prog 57 #[v0] w fun e w' => RecsPost [] w e w' := by
  obtain ⟨b1, cap1, hv0, hcap, _⟩ := hv.is
  rw [List.length_nil] at hv0
  subst hv0
  have X := At.new w 120 #[.pointer none, .slice none 0 0]
  have F : Below w.heap.size w (w.alloc (.cells #[.pointer none, .slice none 0 0] 120)) := (Below.refl _ _).alloc (Nat.le_refl _) _
  clear hv
  go_enter Tryz.func57, Tryz.ntmps57
  go_upto_region 2 with (fail)
  obtain ⟨B, hB⟩ : ∃ B, B = w.heap.size := ⟨_, rfl⟩
  rw [← hB] at X F ⊢
  generalize w.alloc (.cells #[.pointer none, .slice none 0 0] 120) = w1 at X F ⊢
  have HB := Lib.hid hB
  clear hB
  go_wp2
  go_loopw [11] (fun i wr => ∃ z, i = .int .i64 0 ∧ z = wr ∧ At z B 120 #[.pointer none, .slice none 0 0] ∧ Below B w z) (fun _ _ => 0)
  case atStart => exact ⟨_, rfl, rfl, X, F⟩
  case round =>
    clear X F
    obtain ⟨z, rfl, rfl, X, F⟩ := hrel
    go_wp2_with fail
    refine (text_none X).mono ?_
    rintro e w2 ⟨rfl, G⟩
    go_wp2
    go_ret2
    exact ⟨.inl ⟨rfl, rfl⟩, by rw [← HB.out]; exact F.trans (G.mono (by have := HB.out; have := F.size; omega))⟩
set_option maxHeartbeats 2000000 in
theorem records_some {v0 : Value} {xs : List Sp} {w : World} (hv : SlsAt w v0 xs) (hl : xs.length ≤ 1000000) (h0 : xs ≠ []) :
    Calls Tryz.prog 57 #[v0] w fun e w' => RecsPost xs w e w' := by
  obtain ⟨b1, cap1, rfl, hcap, _⟩ := hv.is
  have OKL := Lib.hid hv.ok
  have W0 : Wr (w.alloc (.cells #[.pointer none, .slice none 0 0] 120)) w.heap.size (w.heap.size + 1) [] := ⟨by omega, by simp, by simp, _, _, .inl rfl, heap_alloc_new w _, by simp [dV], .inl ⟨rfl, rfl⟩⟩
  have F : Below w.heap.size w (w.alloc (.cells #[.pointer none, .slice none 0 0] 120)) := (Below.refl _ _).alloc (Nat.le_refl _) _
  obtain ⟨n1, hn1⟩ : ∃ n1, n1 = xs.length := ⟨_, rfl⟩
  rw [← hn1] at hv hl hcap ⊢
  have HN1 := Lib.hid hn1
  have H0 := Lib.hid h0
  clear hn1 h0
  go_enter Tryz.func57, Tryz.ntmps57
  go_upto_region 2 with (fail)
  obtain ⟨B, hB⟩ : ∃ B, B = w.heap.size := ⟨_, rfl⟩
  rw [← hB] at W0 F ⊢
  generalize w.alloc (.cells #[.pointer none, .slice none 0 0] 120) = w1 at W0 F ⊢
  have HB := Lib.hid hB
  clear hB
  go_wp2
  go_loopw [11] (fun i wr => ∃ (u : World) (k : Nat), u = wr ∧ k ≤ n1 ∧ i = .int .i64 k ∧ Wr u B (B + 1) (recs (xs.take k)) ∧ Below B w u ∧ ∀ x ∈ xs.take k, Can x) (fun i _ => n1 - (intOf i).toNat)
  case atStart => exact ⟨_, 0, rfl, Nat.zero_le _, rfl, W0, F, by simp⟩
  case round =>
    clear W0 F
    obtain ⟨u, k, rfl, hk, rfl, W, F, can⟩ := hrel
    have hrl := recs_len_le can
    rw [List.length_take] at hrl
    by_cases hlt : k < n1
    · obtain ⟨x, hx⟩ : ∃ x, xs[k]? = some x := ⟨xs[k]'(by have := HN1.out; omega), List.getElem?_eq_getElem _⟩
      have xok := OKL.out x (List.mem_of_getElem? hx)
      have hv2 := hv.below (w' := u) (by rw [← HB.out]; exact F)
      obtain ⟨a1, rfl, _, LXX⟩ := hv2.loads hx
      clear hv2
      have HX := Lib.hid hx
      clear hx
      have l1 : (k : Int) < (n1 : Int) := by omega
      obtain ⟨w3, S3, X3, G3, Z3⟩ := x_keep u xok.dig.len
      have LX := sl_loads X3 xok.dig.len
      replace W := W.below G3 (Nat.le_refl _)
      have NF := F.size
      replace F := F.trans (G3.mono (by have := HB.out; omega))
      clear Z3 X3
      go_upto_region 5 with (first | refine wpl_load LXX rfl rfl rfl ?_ | refine wpl_store S3 rfl rfl rfl rfl rfl ?_)
      clear S3 LXX G3
      generalize u.heap.size = X at LX ⊢
      go_wp2_with (refine wpl_load LX rfl rfl rfl ?_)
      by_cases can1 : Can x
      · refine (write_yes x _ xok can1).mono ?_
        rintro e w4 ⟨rfl, G4⟩
        have W4 := W.below G4 (Nat.le_refl _)
        have F4 := F.trans (G4.mono (by have := HB.out; have := F.size; omega))
        clear W F G4 LX
        have hz : (Cr.strOf (recL (bodyL x))).size ≤ 414 := by rw [strOf_size, rec_len]; have := (body_len can1).2; omega
        have hb : bl (Cr.strOf (recL (bodyL x))) = recL (bodyL x) := bl_strOf (rec_lt (body_lt can1.dig))
        have hs : recs (xs.take (k + 1)) = recs (xs.take k) ++ bl (Cr.strOf (recL (bodyL x))) := by rw [hb]; exact recs_snoc_take HX.out
        have HS := Lib.hid hs
        have HC := Lib.hid (can_snoc HX.out can1 can)
        have STR := string_any W4 (Cr.strOf (recL (bodyL x))) (by omega)
        clear hb hs W4 can
        generalize Cr.strOf (recL (bodyL x)) = sx at STR HS hz ⊢
        go_wp2_with fail
        refine STR.mono ?_
        rintro e w5 ⟨rfl, W5, K5⟩
        clear STR
        have F5 := K5.below F4 (by omega) (Nat.le_refl _)
        go_wp2
        go_roundw
        case rel => exact ⟨_, k + 1, rfl, by omega, by go_num, by rw [HS.out]; exact W5, F5, HC.out⟩
        case measure => simp [intOf]; omega
      · refine (write_no x _ xok can1).mono ?_
        rintro e w4 ⟨rfl, G4⟩
        replace F := F.trans (G4.mono (by have := HB.out; have := F.size; omega))
        go_wp2
        go_ret2
        exact ⟨.inr ⟨all_no HX.out can1, rfl⟩, by rw [← HB.out]; exact F⟩
    · obtain rfl : k = n1 := by omega
      have ht : xs.take k = xs := List.take_of_length_le (by have := HN1.out; omega)
      rw [ht] at W can
      have hne : recs xs ≠ [] := by
        have h1 := H0.out
        cases hx : xs with
        | nil => exact absurd hx h1
        | cons y ys =>
          rw [recs_cons]
          intro e
          have := congrArg List.length e
          rw [List.length_append, rec_len] at this
          simp at this
      have TX := text_any W hne (by rw [ht] at hrl; omega)
      have HC := Lib.hid can
      clear hne ht can hrl
      obtain ⟨sx, hsx⟩ : ∃ sx, sx = Cr.strOf (recs xs) := ⟨_, rfl⟩
      rw [← hsx] at TX
      have HSX := Lib.hid hsx
      clear hsx hv
      have l1 : ¬ (k : Int) < (k : Int) := by omega
      go_wp2_with fail
      refine TX.mono ?_
      rintro e w4 ⟨rfl, W4, K4⟩
      have F4 := K4.below F (by omega) (Nat.le_refl _)
      go_wp2
      go_ret2
      exact ⟨.inl ⟨allCan.2 HC.out, by rw [← HSX.out]; rfl⟩, by rw [← HB.out]; exact F4⟩
theorem records_any {v0 : Value} {xs : List Sp} {w : World} (hv : SlsAt w v0 xs) (hl : xs.length ≤ 1000000) :
    Calls Tryz.prog 57 #[v0] w fun e w' => RecsPost xs w e w' := by
  by_cases h : xs = []
  · subst h
    exact records_none hv
  · exact records_some hv hl h
end Go.Proofs.YtdmgobffhpgjlaaGreat.Sl.Dg
