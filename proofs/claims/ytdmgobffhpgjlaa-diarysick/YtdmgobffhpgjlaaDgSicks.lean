/-
  A sick log takes nothing till it is written anew: the walk of DiarySick.
  DiarySick, where more is asked than is asked, or no slip: it answers true.
-/
import Derived.Test.YtdmgobffhpgjlaaDgRow
import Derived.Test.YtdmgobffhpgjlaaSlRef2
section
namespace Go.Proofs.Ytdmgobffhpgjlaa.Sl.Dg
open Go.RowKit Go.PlainAid Go.Proofs.Ytdmgobffhpgjlaa.Cr
open Go.Proofs.Ytdmgobffhpgjlaa.Pk (Bs Fi Dk kl HasD has_new KeepAt on_post)
set_option linter.unusedVariables false
set_option maxRecDepth 20000
set_option linter.unusedSimpArgs false

theorem greatA_no {xs : List Sp} {s : ByteArray} {x : Sp} (h : greatA xs s x = false) : xs.length ≤ 20 ∧ s.size ≤ 500 := by
  unfold greatA at h
  simp only [Bool.or_eq_false_iff, decide_eq_false_iff_not] at h
  omega
set_option maxRecDepth 100000 in
set_option maxHeartbeats 16000000 in
theorem sick_main {v0 : Value} (L : List Sp) (y : Sp) {w : World} (hv : SlsAt w v0 L) (yok : Okay y) (hgr : greatA L ⟨#[]⟩ y = false) (hy : Can y) :
    Calls Try.prog 5 #[v0, .agg (slV y)] w fun e w' => e = .returned (.bool true) ∧ Below w.heap.size w w' := by
  obtain ⟨i0, hi, hz0, hz1, hz2⟩ := info_parts infoSl
  have hl20 := (greatA_no hgr).1
  have OKL := Lib.hid hv.ok
  have X := At.new w 37 (slV y)
  have F : Below w.heap.size w (w.alloc (.cells (slV y) 37)) := (Below.refl _ _).alloc (Nat.le_refl _) _
  obtain ⟨b1, cap1, rfl, hcap, _⟩ := hv.is
  obtain ⟨n1, hn1⟩ : ∃ n1, n1 = L.length := ⟨_, rfl⟩
  rw [← hn1] at hv hcap hl20 ⊢
  have HN1 := Lib.hid hn1
  clear hn1
  have HV : Hid (∀ u, Below w.heap.size w u → SlsAt u (.slice b1 n1 cap1) L) := Lib.hid fun u h => hv.below h
  have HGR := Lib.hid hgr
  clear hv hgr
  go_enter Try.func5, Try.ntmps5
  go_upto_region 1 with (fail)
  obtain ⟨B, hB⟩ : ∃ B, B = w.heap.size := ⟨_, rfl⟩
  rw [← hB] at X ⊢
  have HB := Lib.hid hB
  clear hB
  generalize w.alloc (.cells (slV y) 37) = w1 at X F ⊢
  go_wp2_with fail
  refine (awake_any _).mono ?_
  rintro e w2 ⟨rfl, G⟩
  replace X := X.old G
  replace F := F.trans (G.mono F.size)
  clear G
  have LX := sl_loads X yok.dig.len
  have GR := great_any (HV.out w2 F) (by have := HN1.out; omega) 0 0 0 0 ⟨#[]⟩ (by decide) y yok
  rw [HGR.out] at GR
  go_wp2_with (first | refine wpl_load LX rfl rfl rfl ?_ | (with_reducible refine wpl_act_lx (b := b1) (len := n1) (cap := cap1) yok.dig.len ?_ rfl ?_ ?_ ?_; (· kernel_rfl); (· kernel_rfl); (· kernel_rfl)))
  refine GR.mono ?_
  rintro e w3 ⟨rfl, G⟩
  clear GR LX
  replace X := X.old G
  replace F := F.trans (G.mono F.size)
  clear G
  have LX := sl_loads X yok.dig.len
  go_wp2_with (with_reducible refine wpl_load_in LX ?_ rfl ?_ ?_; (· kernel_rfl); (· kernel_rfl))
  refine (rgood_any y _ yok).mono ?_
  rintro e w4 ⟨rfl, G⟩
  rw [canB_yes hy]
  replace X := X.old G
  replace F := F.trans (G.mono F.size)
  clear G LX
  have NF : B < w4.heap.size := X.lt
  have C0 := dnew w F 1048576
  go_wp2_with fail
  refine C0.mono ?_
  rintro e w5 ⟨p, rfl, h, G⟩
  clear C0
  replace X := X.old G
  clear G F
  have C := open_new h (by decide)
  clear h
  go_wp2_with fail
  refine C.mono ?_
  rintro e w6 ⟨q, g, cap, rfl, _, hg, kp⟩
  clear C
  replace X := kp.at X
  clear kp
  simp only [List.length_nil] at hg ⊢
  have own := World.ownsRow_made (base := B + 1) (e := 37) (size := 38) w6 #[] 0 (by have := X.lt; omega) (Nat.zero_le _) rfl
  replace hg := (hg.kept ((Below.refl _ _).alloc (Nat.le_refl _) (.cells #[] 37))).up (M := 3 + ((0 : Nat) : Int)) (by omega)
  replace X := X.alloc (.cells #[] 37)
  have hBw : w.heap.size = B := HB.out.symm
  have HB2 : Hid (w.heap.size ≤ B) := Lib.hid (by omega)
  clear hBw
  go_upto_region 10 with (fail)
  generalize w6.alloc (.cells #[] 37) = w7 at own hg X ⊢
  go_wp2
  go_loopw [9, 10] (fun vv i wr => ∃ (u : World) (k : Nat) (xs : List Sp), u = wr ∧ k ≤ n1 ∧ i = .int .i64 k ∧ xs.length ≤ k ∧ HG w u p q xs 0 1048576 (3 + (k : Int)) [] ∧ u.ownsRow (B + 1) 37 38 vv xs.length (slsL xs) ∧ At u B 37 (slV y)) (fun _ i _ => n1 - (intOf i).toNat)
  case atStart => exact ⟨_, 0, [], rfl, Nat.zero_le _, rfl, Nat.le_refl _, hg, own, X⟩
  case round =>
    clear hg own X
    obtain ⟨u, k, xs, rfl, hk, rfl, hxk, hg, own, X⟩ := hrel
    by_cases hlt : k < n1
    · obtain ⟨x, hx⟩ : ∃ x, L[k]? = some x := ⟨L[k]'(by have := HN1.out; omega), List.getElem?_eq_getElem _⟩
      have xok := OKL.out x (List.mem_of_getElem? hx)
      have lt : (k : Int) < (n1 : Int) := by omega
      obtain ⟨a1, rfl, _, LXX⟩ := (HV.out u hg.below).loads hx
      have HX := Lib.hid hx
      clear hx
      by_cases can : Can x
      · go_wp2_with (refine wpl_load LXX rfl rfl rfl ?_)
        refine (add_good hg can (by omega) (by decide) (by omega)).mono ?_
        rintro e w3 ⟨rfl, hg3, kp⟩
        clear hg LXX
        replace own := kp.owns own
        replace X := kp.at X
        clear kp
        obtain ⟨a2, e2, _, LXX⟩ := (HV.out w3 hg3.below).loads HX.out
        injection e2 with e2
        subst e2
        have mle : B + 1 ≤ w3.heap.size := by have := X.lt; omega
        have hg4 := hg3.kept ((Below.refl _ _).alloc (Nat.le_refl _) (.cells (slV x) 37))
        have own0 := own.alloc (.cells (slV x) 37)
        replace X := X.alloc (.cells (slV x) 37)
        clear own hg3
        go_upto_region 12 with (first | refine wpl_load LXX rfl rfl rfl ?_ | refine wpl_build (slV_size xok.dig.len) rfl rfl rfl ?_ | (at_builtin; refine wpList_append_own _ rfl _ _ 22 rfl (B + 1) 37 i0 (.agg #[.int .i64 0, .string ⟨#[]⟩, .string ⟨#[]⟩, .int .u8 0, .int .u8 0, .int .u8 0, .int .u8 0, .int .u8 0, .int .u8 0, .int .u8 0, .int .u8 0, .int .u8 0, .int .u8 0, .int .u8 0, .int .u8 0, .int .u8 0, .int .u8 0, .int .u8 0, .int .u8 0, .int .u8 0, .int .u8 0, .int .u8 0, .int .u8 0, .int .u8 0, .int .u8 0, .int .u8 0, .int .u8 0, .int .u8 0, .int .u8 0, .int .u8 0, .int .u8 0, .int .u8 0, .int .u8 0, .int .u8 0, .int .u8 0, .string ⟨#[]⟩, .int .i64 0, .int .i64 0]) 38 104 Try.underlying22 hi hz0 hz1 hz2 rfl (by decide) _ _ _ rfl own0 ⟨w3.heap.size, 0, none⟩ 1 1 (slL x) rfl ?c0 ?c1 (slL_one x) ?c3 ?c4 ?c5 ?_))
        case c0 => rw [slL_len xok.dig.len]
        case c1 => exact new_cells w3 x
        case c3 => unfold maxLen; omega
        case c4 => omega
        case c5 => simp; omega
        intro v' w4 own4 hgrow _
        have hg5 := hg4.grown hgrow (owns_row own0 (by have := HB2.out; omega))
        have X4 := Dg.At.grown X hgrow fun k hk => by have := (own0.lt k hk).1; omega
        have own5 : w4.ownsRow (B + 1) 37 38 v' (xs ++ [x]).length (slsL (xs ++ [x])) := by
          rw [slsL_snoc, List.length_append]
          exact own4
        clear own4 own0 hg4 hgrow LXX
        go_wp2
        go_roundw
        case rel => exact ⟨_, k + 1, xs ++ [x], rfl, by omega, by go_num, by rw [List.length_append]; simp; omega, hg5.up (by omega), own5, X4⟩
        case measure => simp [intOf]; omega
      · go_wp2_with (refine wpl_load LXX rfl rfl rfl ?_)
        refine (add_not hg xok can (by omega) (by omega)).mono ?_
        rintro e w3 ⟨rfl, hg3, kp⟩
        clear hg LXX
        replace own := kp.owns own
        replace X := kp.at X
        clear kp
        go_wp2
        go_roundw
        case rel => exact ⟨_, k + 1, xs, rfl, by omega, by go_num, by omega, hg3.up (by omega), own, X⟩
        case measure => simp [intOf]; omega
    · have lt : ¬ (k : Int) < (n1 : Int) := by omega
      have hx20 : xs.length ≤ 20 := by omega
      replace hg := hg.up (M := 23) (by omega)
      have OX : Hid (∀ z ∈ xs, Okay z) := Lib.hid fun z hz => by
        obtain ⟨D, _, h2⟩ := hg.is
        exact can_okay (h2.can z hz)
      obtain ⟨gv, cv, rfl⟩ := owns_slice own

      obtain ⟨D, h1, h2⟩ := hg.is
      clear hg
      have hn := h2.n
      obtain ⟨D2, hA, g2⟩ := sick_add h2 hy
      go_wp2_with fail
      refine (arm_has h1 (by omega) 1 1 0 (by decide)).mono ?_
      rintro e w4 ⟨rfl, h4, kp⟩
      clear h1
      replace own := kp.owns own
      replace X := kp.at X
      clear kp
      have LX := sl_loads X yok.dig.len
      have C := add_any h4 (by rw [arm_io D 1 (by decide)]; simp only; omega) (h2.fits (by omega) _) y yok
      rw [hA] at C
      clear h4 hA
      go_wp2_with (refine wpl_load LX rfl rfl rfl ?_)
      refine C.mono ?_
      rintro e w5 ⟨rfl, h5, kp⟩
      clear C LX
      replace own := kp.owns own
      replace X := kp.at X
      clear kp
      have C := sick_has h5
      go_wp2_with fail
      refine C.mono ?_
      rintro e w6 ⟨rfl, rfl⟩
      clear C
      have hn2 := g2.n
      have LX := sl_loads X yok.dig.len
      have C := add_any h5 (by omega) (g2.fits (by omega) _) y yok
      rw [addL_sick _ rfl] at C
      clear h5
      go_wp2_with (with_reducible refine wpl_load_in LX ?_ rfl ?_ ?_; (· kernel_rfl); (· kernel_rfl))
      refine C.mono ?_
      rintro e w7 ⟨rfl, h5, kp⟩
      clear C LX
      replace own := kp.owns own
      replace X := kp.at X
      clear kp
      have C := sync_any h5 (by omega)
      rw [syncL_sick rfl] at C
      clear h5
      go_wp2_with fail
      refine C.mono ?_
      rintro e w8 ⟨rfl, h5, kp⟩
      clear C
      replace own := kp.owns own
      replace X := kp.at X
      clear kp
      have C := len_has h5
      go_wp2_with fail
      refine C.mono ?_
      rintro e w9 ⟨rfl, rfl⟩
      clear C
      simp only [lgOf]
      obtain ⟨D3, D4, hR, hE, g4, hn3⟩ := sick_rew g2 hy (lgOf xs 0 true)
      go_wp2_with fail
      refine (arm_has h5 (by omega) 2 1 0 (by decide)).mono ?_
      rintro e w10 ⟨rfl, h6, kp⟩
      clear h5
      replace own := kp.owns own
      replace X := kp.at X
      clear kp
      have LX := sl_loads X yok.dig.len
      have sm := made_sls w10 (xs := [y]) (by intro z hz; simp at hz; subst hz; exact yok) (by simp)
      replace h6 := h6.alloc (.cells (slsL [y]).toArray 37)
      have B10 : Below w10.heap.size w10 (w10.alloc (.cells (slsL [y]).toArray 37)) := (Below.refl _ _).alloc (Nat.le_refl _) _
      replace own := (Kp.of_below B10).owns own
      replace X := (Kp.of_below B10).at X
      have C := rewrite_any h6 (by rw [arm_io D2 2 (by decide)]; simp only; omega) sm (by simp)
      rw [hR] at C
      clear h6 sm hR
      go_wp2_with (first | refine wpl_load LX rfl rfl rfl ?_ | (with_reducible refine wpl_built1 yok ?_ rfl ?_ ?_; (· kernel_rfl); (· kernel_rfl)))
      refine C.mono ?_
      rintro e w11 ⟨rfl, h6, kp⟩
      clear C LX B10
      replace own := kp.owns own
      replace X := kp.at X
      clear kp
      have C := sick_has h6
      go_wp2_with fail
      refine C.mono ?_
      rintro e w12 ⟨rfl, rfl⟩
      clear C
      have C := len_has h6
      go_wp2_with fail
      refine C.mono ?_
      rintro e w13 ⟨rfl, rfl⟩
      clear C
      simp only [lgOf]
      have hq := h6.hq
      have C := open_found h6.d (by omega) hE g4
      clear h6 hE
      go_wp2_with fail
      refine C.mono ?_
      rintro e w14 ⟨q2, gf, cf, rfl, own2, hg7, kp⟩
      clear C
      replace own := kp.owns own
      replace X := kp.at X
      clear kp
      obtain ⟨D5, h8, g8⟩ := hg7.other hq
      clear hg7
      have S := same_any (owns_sls own2 OX.out) (owns_sls own OX.out) (by omega) (by omega)
      rw [sameB_yes rfl] at S
      clear own own2
      go_wp2_with fail
      refine S.mono ?_
      rintro e w15 ⟨rfl, G⟩
      clear S
      replace h8 := h8.kept G
      replace X := X.old G
      clear G
      have LX := sl_loads X yok.dig.len
      have sm := made_sls w15 (xs := [y]) (by intro z hz; simp at hz; subst hz; exact yok) (by simp)
      replace h8 := h8.alloc (.cells (slsL [y]).toArray 37)
      replace X := X.alloc (.cells (slsL [y]).toArray 37)
      have C := rew_good h8 g8 (by omega) sm (by intro z hz; simp at hz; subst hz; exact hy) (by simp) (by decide) (by decide)
      clear h8 sm
      go_wp2_with (first | (with_reducible refine wpl_load_in LX ?_ rfl ?_ ?_; (· kernel_rfl); (· kernel_rfl)) | (with_reducible refine wpl_built1 yok ?_ rfl ?_ ?_; (· kernel_rfl); (· kernel_rfl)))
      refine C.mono ?_
      rintro e w16 ⟨rfl, hg, kp⟩
      clear C LX
      replace X := kp.at X
      clear kp
      have C := hg.sick
      go_wp2_with fail
      refine C.mono ?_
      rintro e w17 ⟨rfl, rfl⟩
      clear C
      have LX := sl_loads X yok.dig.len
      have C := add_good hg hy (by simp) (by decide) (by decide)
      clear hg
      go_wp2_with (with_reducible refine wpl_load_in LX ?_ rfl ?_ ?_; (· kernel_rfl); (· kernel_rfl))
      refine C.mono ?_
      rintro e w18 ⟨rfl, hg, kp⟩
      clear C LX
      replace X := kp.at X
      clear kp
      have C := sync_good hg (by decide)
      clear hg
      go_wp2_with fail
      refine C.mono ?_
      rintro e w19 ⟨rfl, hg, kp⟩
      clear C
      replace X := kp.at X
      clear kp
      obtain ⟨D6, h9, g9⟩ := hg.is
      clear hg
      have C := open_good h9.disk g9 (by decide)
      clear h9
      go_wp2_with fail
      refine C.mono ?_
      rintro e w20 ⟨q3, gz, cz, rfl, own3, hg, kp⟩
      clear C
      replace X := kp.at X
      clear kp
      have C := open_nil w20
      go_wp2_with fail
      refine C.mono ?_
      rintro e w21 ⟨rfl, rfl⟩
      clear C
      have LX := sl_loads X yok.dig.len
      have ok2 : ∀ z ∈ [y] ++ [y], Okay z := by intro z hz; simp at hz; subst hz; exact yok
      have sm := made_sls w20 (xs := [y, y]) (by intro z hz; simp at hz; subst hz; exact yok) (by simp)
      have B20 : Below w20.heap.size w20 (w20.alloc (.cells (slsL [y, y]).toArray 37)) := (Below.refl _ _).alloc (Nat.le_refl _) _
      have S := same_any ((owns_sls own3 ok2).below B20) sm (by simp) (by simp)
      rw [sameB_yes (show [y] ++ [y] = [y, y] from rfl)] at S
      replace X := X.old B20
      have F := hg.below.trans (B20.mono hg.below.size)
      clear own3 sm hg B20
      go_wp2_with (first | (with_reducible refine wpl_load_in LX ?_ rfl ?_ ?_; (· kernel_rfl); (· kernel_rfl)) | (with_reducible refine wpl_built2 yok yok ?_ rfl ?_ ?_ ?_; (· kernel_rfl); (· kernel_rfl); (· kernel_rfl)))
      refine S.mono ?_
      rintro e w22 ⟨rfl, G⟩
      clear S LX
      replace X := X.old G
      replace F := F.trans (G.mono F.size)
      clear G
      have LX := sl_loads X yok.dig.len
      go_wp2_with (with_reducible refine wpl_load_in LX ?_ rfl ?_ ?_; (· kernel_rfl); (· kernel_rfl))
      refine (add_nil y _).mono ?_
      rintro e w23 ⟨rfl, G⟩
      replace F := F.trans (G.mono F.size)
      clear G LX X
      go_wp2_with fail
      refine (sync_nil _).mono ?_
      rintro e w24 ⟨rfl, rfl⟩
      go_wp2_with fail
      refine (rewrite_nil _ _).mono ?_
      rintro e w25 ⟨rfl, rfl⟩
      go_wp2_with fail
      refine (sick_nil _).mono ?_
      rintro e w26 ⟨rfl, rfl⟩
      go_wp2_with fail
      refine (len_nil _).mono ?_
      rintro e w27 ⟨rfl, rfl⟩
      go_wp2_with fail
      refine (sure_nil _).mono ?_
      rintro e w28 ⟨rfl, rfl⟩
      go_wp2_with fail
      refine (bytes_nil _).mono ?_
      rintro e w29 ⟨rfl, rfl⟩
      go_wp2
      go_ret
      exact ⟨rfl, F⟩
end Go.Proofs.Ytdmgobffhpgjlaa.Sl.Dg
end

section
namespace Go.Proofs.Ytdmgobffhpgjlaa.Sl.Dg
open Go.RowKit Go.PlainAid Go.Proofs.Ytdmgobffhpgjlaa.Cr
open Go.Proofs.Ytdmgobffhpgjlaa.Pk (Bs Fi Dk kl HasD has_new KeepAt on_post)
set_option linter.unusedVariables false
set_option maxRecDepth 20000
set_option linter.unusedSimpArgs false

section
variable {v0 : Value} {L : List Sp} {y : Sp} {w : World}
set_option maxRecDepth 100000 in
set_option maxHeartbeats 4000000 in
theorem sick_great (hv : SlsAt w v0 L) (hl : L.length ≤ 9223372036854775807) (yok : Okay y) (hgr : greatA L ⟨#[]⟩ y = true) :
    Calls Try.prog 5 #[v0, .agg (slV y)] w fun e w' => e = .returned (.bool true) ∧ Below w.heap.size w w' := by
  have X := At.new w 37 (slV y)
  have F : Below w.heap.size w (w.alloc (.cells (slV y) 37)) := (Below.refl _ _).alloc (Nat.le_refl _) _
  obtain ⟨b1, cap1, rfl, hcap, _⟩ := hv.is
  obtain ⟨n1, hn1⟩ : ∃ n1, n1 = L.length := ⟨_, rfl⟩
  rw [← hn1] at hv hcap hl ⊢
  have HN1 := Lib.hid hn1
  clear hn1
  have HV : Hid (∀ u, Below w.heap.size w u → SlsAt u (.slice b1 n1 cap1) L) := Lib.hid fun u h => hv.below h
  have HGR := Lib.hid hgr
  clear hv hgr
  go_enter Try.func5, Try.ntmps5
  go_upto_region 1 with (fail)
  obtain ⟨B, hB⟩ : ∃ B, B = w.heap.size := ⟨_, rfl⟩
  rw [← hB] at X ⊢
  clear hB
  generalize w.alloc (.cells (slV y) 37) = w1 at X F ⊢
  go_wp2_with fail
  refine (awake_any _).mono ?_
  rintro e w2 ⟨rfl, G⟩
  replace X := X.old G
  replace F := F.trans (G.mono F.size)
  clear G
  have LX := sl_loads X yok.dig.len
  have GR := great_any (HV.out w2 F) (by have := HN1.out; omega) 0 0 0 0 ⟨#[]⟩ (by decide) y yok
  rw [HGR.out] at GR
  go_wp2_with (first | refine wpl_load LX rfl rfl rfl ?_ | (with_reducible refine wpl_act_lx (b := b1) (len := n1) (cap := cap1) yok.dig.len ?_ rfl ?_ ?_ ?_; (· kernel_rfl); (· kernel_rfl); (· kernel_rfl)))
  refine GR.mono ?_
  rintro e w3 ⟨rfl, G⟩
  clear GR LX
  replace X := X.old G
  replace F := F.trans (G.mono F.size)
  clear G
  go_wp2
  go_ret
  exact ⟨rfl, F⟩
set_option maxRecDepth 100000 in
set_option maxHeartbeats 4000000 in
theorem sick_none (hv : SlsAt w v0 L) (hl : L.length ≤ 9223372036854775807) (yok : Okay y) (hgr : greatA L ⟨#[]⟩ y = false) (hy : ¬ Can y) :
    Calls Try.prog 5 #[v0, .agg (slV y)] w fun e w' => e = .returned (.bool true) ∧ Below w.heap.size w w' := by
  have X := At.new w 37 (slV y)
  have F : Below w.heap.size w (w.alloc (.cells (slV y) 37)) := (Below.refl _ _).alloc (Nat.le_refl _) _
  obtain ⟨b1, cap1, rfl, hcap, _⟩ := hv.is
  obtain ⟨n1, hn1⟩ : ∃ n1, n1 = L.length := ⟨_, rfl⟩
  rw [← hn1] at hv hcap hl ⊢
  have HN1 := Lib.hid hn1
  clear hn1
  have HV : Hid (∀ u, Below w.heap.size w u → SlsAt u (.slice b1 n1 cap1) L) := Lib.hid fun u h => hv.below h
  have HGR := Lib.hid hgr
  clear hv hgr
  go_enter Try.func5, Try.ntmps5
  go_upto_region 1 with (fail)
  obtain ⟨B, hB⟩ : ∃ B, B = w.heap.size := ⟨_, rfl⟩
  rw [← hB] at X ⊢
  clear hB
  generalize w.alloc (.cells (slV y) 37) = w1 at X F ⊢
  go_wp2_with fail
  refine (awake_any _).mono ?_
  rintro e w2 ⟨rfl, G⟩
  replace X := X.old G
  replace F := F.trans (G.mono F.size)
  clear G
  have LX := sl_loads X yok.dig.len
  have GR := great_any (HV.out w2 F) (by have := HN1.out; omega) 0 0 0 0 ⟨#[]⟩ (by decide) y yok
  rw [HGR.out] at GR
  go_wp2_with (first | refine wpl_load LX rfl rfl rfl ?_ | (with_reducible refine wpl_act_lx (b := b1) (len := n1) (cap := cap1) yok.dig.len ?_ rfl ?_ ?_ ?_; (· kernel_rfl); (· kernel_rfl); (· kernel_rfl)))
  refine GR.mono ?_
  rintro e w3 ⟨rfl, G⟩
  clear GR LX
  replace X := X.old G
  replace F := F.trans (G.mono F.size)
  clear G
  have LX := sl_loads X yok.dig.len
  go_wp2_with (with_reducible refine wpl_load_in LX ?_ rfl ?_ ?_; (· kernel_rfl); (· kernel_rfl))
  refine (rgood_any y _ yok).mono ?_
  rintro e w4 ⟨rfl, G⟩
  rw [canB_no hy]
  replace F := F.trans (G.mono F.size)
  clear G LX
  go_wp2
  go_ret
  exact ⟨rfl, F⟩
end
end Go.Proofs.Ytdmgobffhpgjlaa.Sl.Dg
end
