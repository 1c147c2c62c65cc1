/-
  DiarySick, where more is asked than is asked, or no slip: it answers true.
-/
import Derived.Test.YtdmgobffhpgjlaaDgSick
namespace Go.Proofs.Ytdmgobffhpgjlaa.Sl.Dg
open Go.RowKit Go.PlainAid Go.Proofs.Ytdmgobffhpgjlaa.Cr
open Go.Proofs.Ytdmgobffhpgjlaa.Pk (Bs Fi Dk kl HasD has_new KeepAt on_post)
set_option linter.unusedVariables false
set_option maxRecDepth 20000
set_option linter.unusedSimpArgs false

section
variable {v0 : Value} {L : List Sp} {y : Sp} {w : World}
set_option maxRecDepth 100000 in
set_option maxHeartbeats 4000000 in
theorem sick_great (hv : SlsAt w v0 L) (hl : L.length ≤ 9223372036854775807) (yok : Okay y) (hgr : greatA L ⟨#[]⟩ y = true) :
    Calls Try.prog 5 #[v0, .agg (slV y)] w fun e w' => e = .returned (.bool true) ∧ Below w.heap.size w w' := by
  have X := At.new w 37 (slV y)
  have F : Below w.heap.size w (w.alloc (.cells (slV y) 37)) := (Below.refl _ _).alloc (Nat.le_refl _) _
  obtain ⟨b1, cap1, rfl, hcap, _⟩ := hv.is
  obtain ⟨n1, hn1⟩ : ∃ n1, n1 = L.length := ⟨_, rfl⟩
  rw [← hn1] at hv hcap hl ⊢
  have HN1 := Lib.hid hn1
  clear hn1
  have HV : Hid (∀ u, Below w.heap.size w u → SlsAt u (.slice b1 n1 cap1) L) := Lib.hid fun u h => hv.below h
  have HGR := Lib.hid hgr
  clear hv hgr
  go_enter Try.func5, Try.ntmps5
  go_upto_region 1 with (fail)
  obtain ⟨B, hB⟩ : ∃ B, B = w.heap.size := ⟨_, rfl⟩
  rw [← hB] at X ⊢
  clear hB
  generalize w.alloc (.cells (slV y) 37) = w1 at X F ⊢
  go_wp2_with fail
  refine (awake_any _).mono ?_
  rintro e w2 ⟨rfl, G⟩
  replace X := X.old G
  replace F := F.trans (G.mono F.size)
  clear G
  have LX := sl_loads X yok.dig.len
  have GR := great_any (HV.out w2 F) (by have := HN1.out; omega) 0 0 0 0 ⟨#[]⟩ (by decide) y yok
  rw [HGR.out] at GR
  go_wp2_with (first | refine wpl_load LX rfl rfl rfl ?_ | (with_reducible refine wpl_act_lx (b := b1) (len := n1) (cap := cap1) yok.dig.len ?_ rfl ?_ ?_ ?_; (· kernel_rfl); (· kernel_rfl); (· kernel_rfl)))
  refine GR.mono ?_
  rintro e w3 ⟨rfl, G⟩
  clear GR LX
  replace X := X.old G
  replace F := F.trans (G.mono F.size)
  clear G
  go_wp2
  go_ret
  exact ⟨rfl, F⟩
set_option maxRecDepth 100000 in
set_option maxHeartbeats 4000000 in
theorem sick_none (hv : SlsAt w v0 L) (hl : L.length ≤ 9223372036854775807) (yok : Okay y) (hgr : greatA L ⟨#[]⟩ y = false) (hy : ¬ Can y) :
    Calls Try.prog 5 #[v0, .agg (slV y)] w fun e w' => e = .returned (.bool true) ∧ Below w.heap.size w w' := by
  have X := At.new w 37 (slV y)
  have F : Below w.heap.size w (w.alloc (.cells (slV y) 37)) := (Below.refl _ _).alloc (Nat.le_refl _) _
  obtain ⟨b1, cap1, rfl, hcap, _⟩ := hv.is
  obtain ⟨n1, hn1⟩ : ∃ n1, n1 = L.length := ⟨_, rfl⟩
  rw [← hn1] at hv hcap hl ⊢
  have HN1 := Lib.hid hn1
  clear hn1
  have HV : Hid (∀ u, Below w.heap.size w u → SlsAt u (.slice b1 n1 cap1) L) := Lib.hid fun u h => hv.below h
  have HGR := Lib.hid hgr
  clear hv hgr
  go_enter Try.func5, Try.ntmps5
  go_upto_region 1 with (fail)
  obtain ⟨B, hB⟩ : ∃ B, B = w.heap.size := ⟨_, rfl⟩
  rw [← hB] at X ⊢
  clear hB
  generalize w.alloc (.cells (slV y) 37) = w1 at X F ⊢
  go_wp2_with fail
  refine (awake_any _).mono ?_
  rintro e w2 ⟨rfl, G⟩
  replace X := X.old G
  replace F := F.trans (G.mono F.size)
  clear G
  have LX := sl_loads X yok.dig.len
  have GR := great_any (HV.out w2 F) (by have := HN1.out; omega) 0 0 0 0 ⟨#[]⟩ (by decide) y yok
  rw [HGR.out] at GR
  go_wp2_with (first | refine wpl_load LX rfl rfl rfl ?_ | (with_reducible refine wpl_act_lx (b := b1) (len := n1) (cap := cap1) yok.dig.len ?_ rfl ?_ ?_ ?_; (· kernel_rfl); (· kernel_rfl); (· kernel_rfl)))
  refine GR.mono ?_
  rintro e w3 ⟨rfl, G⟩
  clear GR LX
  replace X := X.old G
  replace F := F.trans (G.mono F.size)
  clear G
  have LX := sl_loads X yok.dig.len
  go_wp2_with (with_reducible refine wpl_load_in LX ?_ rfl ?_ ?_; (· kernel_rfl); (· kernel_rfl))
  refine (rgood_any y _ yok).mono ?_
  rintro e w4 ⟨rfl, G⟩
  rw [canB_no hy]
  replace F := F.trans (G.mono F.size)
  clear G LX
  go_wp2
  go_ret
  exact ⟨rfl, F⟩
end
end Go.Proofs.Ytdmgobffhpgjlaa.Sl.Dg
