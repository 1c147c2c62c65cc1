/-
  Written anew in one step: the walk of DiaryRewrites.
-/
import Derived.Test.YtdmgobffhpgjlaaDgBack
namespace Go.Proofs.Ytdmgobffhpgjlaa.Sl.Dg
open Go.RowKit Go.PlainAid Go.Proofs.Ytdmgobffhpgjlaa.Cr
open Go.Proofs.Ytdmgobffhpgjlaa.Pk (Bs Fi Dk kl HasD has_new KeepAt on_post)
set_option linter.unusedVariables false
set_option maxRecDepth 20000
set_option linter.unusedSimpArgs false

theorem greatL_no {xs : List Sp} {s : ByteArray} {x : Sp} (h : greatA xs s x = false) : xs.length ≤ 20 := by
  unfold greatA at h
  simp only [Bool.or_eq_false_iff, decide_eq_false_iff_not] at h
  omega
set_option maxRecDepth 100000 in
set_option maxHeartbeats 16000000 in
theorem rewr_great1 {v0 v1 v3 : Value} (L Y : List Sp) (pl : Int) (ks : List Int) {w : World} (hv : SlsAt w v0 L) (hl : L.length ≤ 9223372036854775807) (hv1 : SlsAt w v1 Y) (hl1 : Y.length ≤ 9223372036854775807) (hk : IntsAt w v3 ks) (hlk : ks.length ≤ 9223372036854775807) (wf : (Lit.int .i64 pl).wf = true) (hg0 : greatA L ⟨#[]⟩ Sp.zero = true) :
    Calls Try.prog 4 #[v0, v1, .int .i64 pl, v3] w fun e w' => e = .returned (.bool true) ∧ Below w.heap.size w w' := by
  obtain ⟨i0, hi, hz0, hz1, hz2⟩ := info_parts infoSl
  have zok : Okay Sp.zero := ⟨by decide, by decide, by decide, zeros_dig⟩
  have OKL := Lib.hid hv.ok
  have OKY := Lib.hid hv1.ok
  obtain ⟨b1, cap1, rfl, hcap, _⟩ := hv.is
  obtain ⟨n1, hn1⟩ : ∃ n1, n1 = L.length := ⟨_, rfl⟩
  rw [← hn1] at hv hcap hl ⊢
  obtain ⟨b2, cap2, rfl, hcap2, _⟩ := hv1.is
  obtain ⟨n2, hn2⟩ : ∃ n2, n2 = Y.length := ⟨_, rfl⟩
  rw [← hn2] at hv1 hcap2 hl1 ⊢
  obtain ⟨b3, cap3, rfl, hcap3, _⟩ := hk.is
  obtain ⟨n3, hn3⟩ : ∃ n3, n3 = ks.length := ⟨_, rfl⟩
  rw [← hn3] at hk hcap3 hlk ⊢
  have HN1 := Lib.hid hn1
  have HN2 := Lib.hid hn2
  have HN3 := Lib.hid hn3
  clear hn1 hn2 hn3
  have HV : Hid (∀ u, Below w.heap.size w u → SlsAt u (.slice b1 n1 cap1) L) := Lib.hid fun u h => hv.below h
  have HV1 : Hid (∀ u, Below w.heap.size w u → SlsAt u (.slice b2 n2 cap2) Y) := Lib.hid fun u h => hv1.below h
  have HK := Lib.hid hk
  have HG0 := Lib.hid hg0
  clear hv hv1 hk hg0
  go_enter Try.func4, Try.ntmps4
  go_wp2_with fail
  refine (awake_any _).mono ?_
  rintro e w2 ⟨rfl, F⟩
  have GR := great_any (HV.out w2 F) (by have := HN1.out; omega) 0 0 0 0 ⟨#[]⟩ (by decide) Sp.zero zok
  rw [HG0.out] at GR
  go_wp2_with (with_reducible refine wpl_act_l (b := b1) (len := n1) (cap := cap1) ?_ rfl ?_ ?_; (· kernel_rfl); (· kernel_rfl))
  refine GR.mono ?_
  rintro e w3 ⟨rfl, G⟩
  clear GR
  replace F := F.trans (G.mono F.size)
  clear G
  go_wp2
  go_ret
  exact ⟨rfl, F⟩
set_option maxRecDepth 100000 in
set_option maxHeartbeats 16000000 in
theorem rewr_great2 {v0 v1 v3 : Value} (L Y : List Sp) (pl : Int) (ks : List Int) {w : World} (hv : SlsAt w v0 L) (hl : L.length ≤ 9223372036854775807) (hv1 : SlsAt w v1 Y) (hl1 : Y.length ≤ 9223372036854775807) (hk : IntsAt w v3 ks) (hlk : ks.length ≤ 9223372036854775807) (wf : (Lit.int .i64 pl).wf = true) (hg0 : greatA L ⟨#[]⟩ Sp.zero = false) (hg1 : greatA Y ⟨#[]⟩ Sp.zero = true) :
    Calls Try.prog 4 #[v0, v1, .int .i64 pl, v3] w fun e w' => e = .returned (.bool true) ∧ Below w.heap.size w w' := by
  obtain ⟨i0, hi, hz0, hz1, hz2⟩ := info_parts infoSl
  have zok : Okay Sp.zero := ⟨by decide, by decide, by decide, zeros_dig⟩
  have OKL := Lib.hid hv.ok
  have OKY := Lib.hid hv1.ok
  obtain ⟨b1, cap1, rfl, hcap, _⟩ := hv.is
  obtain ⟨n1, hn1⟩ : ∃ n1, n1 = L.length := ⟨_, rfl⟩
  rw [← hn1] at hv hcap hl ⊢
  obtain ⟨b2, cap2, rfl, hcap2, _⟩ := hv1.is
  obtain ⟨n2, hn2⟩ : ∃ n2, n2 = Y.length := ⟨_, rfl⟩
  rw [← hn2] at hv1 hcap2 hl1 ⊢
  obtain ⟨b3, cap3, rfl, hcap3, _⟩ := hk.is
  obtain ⟨n3, hn3⟩ : ∃ n3, n3 = ks.length := ⟨_, rfl⟩
  rw [← hn3] at hk hcap3 hlk ⊢
  have HN1 := Lib.hid hn1
  have HN2 := Lib.hid hn2
  have HN3 := Lib.hid hn3
  clear hn1 hn2 hn3
  have HV : Hid (∀ u, Below w.heap.size w u → SlsAt u (.slice b1 n1 cap1) L) := Lib.hid fun u h => hv.below h
  have HV1 : Hid (∀ u, Below w.heap.size w u → SlsAt u (.slice b2 n2 cap2) Y) := Lib.hid fun u h => hv1.below h
  have HK := Lib.hid hk
  have HG0 := Lib.hid hg0
  clear hv hv1 hk hg0
  go_enter Try.func4, Try.ntmps4
  go_wp2_with fail
  refine (awake_any _).mono ?_
  rintro e w2 ⟨rfl, F⟩
  have GR := great_any (HV.out w2 F) (by have := HN1.out; omega) 0 0 0 0 ⟨#[]⟩ (by decide) Sp.zero zok
  rw [HG0.out] at GR
  go_wp2_with (with_reducible refine wpl_act_l (b := b1) (len := n1) (cap := cap1) ?_ rfl ?_ ?_; (· kernel_rfl); (· kernel_rfl))
  refine GR.mono ?_
  rintro e w3 ⟨rfl, G⟩
  clear GR
  replace F := F.trans (G.mono F.size)
  clear G
  have GR := great_any (HV1.out w3 F) (by have := HN2.out; omega) 0 0 0 0 ⟨#[]⟩ (by decide) Sp.zero zok
  rw [hg1] at GR
  go_wp2_with (with_reducible refine wpl_act_l (b := b2) (len := n2) (cap := cap2) ?_ rfl ?_ ?_; (· kernel_rfl); (· kernel_rfl))
  refine GR.mono ?_
  rintro e w4 ⟨rfl, G⟩
  clear GR
  replace F := F.trans (G.mono F.size)
  clear G
  go_wp2
  go_ret
  exact ⟨rfl, F⟩
set_option maxRecDepth 100000 in
set_option maxHeartbeats 16000000 in
theorem rewr_many {v0 v1 v3 : Value} (L Y : List Sp) (pl : Int) (ks : List Int) {w : World} (hv : SlsAt w v0 L) (hl : L.length ≤ 9223372036854775807) (hv1 : SlsAt w v1 Y) (hl1 : Y.length ≤ 9223372036854775807) (hk : IntsAt w v3 ks) (hlk : ks.length ≤ 9223372036854775807) (wf : (Lit.int .i64 pl).wf = true) (hg0 : greatA L ⟨#[]⟩ Sp.zero = false) (hg1 : greatA Y ⟨#[]⟩ Sp.zero = false) (h20 : ¬ ks.length ≤ 20) :
    Calls Try.prog 4 #[v0, v1, .int .i64 pl, v3] w fun e w' => e = .returned (.bool true) ∧ Below w.heap.size w w' := by
  obtain ⟨i0, hi, hz0, hz1, hz2⟩ := info_parts infoSl
  have zok : Okay Sp.zero := ⟨by decide, by decide, by decide, zeros_dig⟩
  have OKL := Lib.hid hv.ok
  have OKY := Lib.hid hv1.ok
  obtain ⟨b1, cap1, rfl, hcap, _⟩ := hv.is
  obtain ⟨n1, hn1⟩ : ∃ n1, n1 = L.length := ⟨_, rfl⟩
  rw [← hn1] at hv hcap hl ⊢
  obtain ⟨b2, cap2, rfl, hcap2, _⟩ := hv1.is
  obtain ⟨n2, hn2⟩ : ∃ n2, n2 = Y.length := ⟨_, rfl⟩
  rw [← hn2] at hv1 hcap2 hl1 ⊢
  obtain ⟨b3, cap3, rfl, hcap3, _⟩ := hk.is
  obtain ⟨n3, hn3⟩ : ∃ n3, n3 = ks.length := ⟨_, rfl⟩
  rw [← hn3] at hk hcap3 hlk ⊢
  have HN1 := Lib.hid hn1
  have HN2 := Lib.hid hn2
  have HN3 := Lib.hid hn3
  clear hn1 hn2 hn3
  have HV : Hid (∀ u, Below w.heap.size w u → SlsAt u (.slice b1 n1 cap1) L) := Lib.hid fun u h => hv.below h
  have HV1 : Hid (∀ u, Below w.heap.size w u → SlsAt u (.slice b2 n2 cap2) Y) := Lib.hid fun u h => hv1.below h
  have HK := Lib.hid hk
  have HG0 := Lib.hid hg0
  clear hv hv1 hk hg0
  go_enter Try.func4, Try.ntmps4
  go_wp2_with fail
  refine (awake_any _).mono ?_
  rintro e w2 ⟨rfl, F⟩
  have GR := great_any (HV.out w2 F) (by have := HN1.out; omega) 0 0 0 0 ⟨#[]⟩ (by decide) Sp.zero zok
  rw [HG0.out] at GR
  go_wp2_with (with_reducible refine wpl_act_l (b := b1) (len := n1) (cap := cap1) ?_ rfl ?_ ?_; (· kernel_rfl); (· kernel_rfl))
  refine GR.mono ?_
  rintro e w3 ⟨rfl, G⟩
  clear GR
  replace F := F.trans (G.mono F.size)
  clear G
  have GR := great_any (HV1.out w3 F) (by have := HN2.out; omega) 0 0 0 0 ⟨#[]⟩ (by decide) Sp.zero zok
  rw [hg1] at GR
  go_wp2_with (with_reducible refine wpl_act_l (b := b2) (len := n2) (cap := cap2) ?_ rfl ?_ ?_; (· kernel_rfl); (· kernel_rfl))
  refine GR.mono ?_
  rintro e w4 ⟨rfl, G⟩
  clear GR
  replace F := F.trans (G.mono F.size)
  clear G
  have l20 : (20 : Int) < (n3 : Int) := by have := HN3.out; omega
  go_wp2
  go_ret
  exact ⟨rfl, F⟩
set_option maxRecDepth 100000 in
set_option maxHeartbeats 16000000 in
theorem rewr_main {v0 v1 v3 : Value} (L Y : List Sp) (pl : Int) (ks : List Int) {w : World} (hv : SlsAt w v0 L) (hl : L.length ≤ 9223372036854775807) (hv1 : SlsAt w v1 Y) (hl1 : Y.length ≤ 9223372036854775807) (hk : IntsAt w v3 ks) (hlk : ks.length ≤ 9223372036854775807) (wf : (Lit.int .i64 pl).wf = true) (hg0 : greatA L ⟨#[]⟩ Sp.zero = false) (hg1 : greatA Y ⟨#[]⟩ Sp.zero = false) (h20 : ks.length ≤ 20) :
    Calls Try.prog 4 #[v0, v1, .int .i64 pl, v3] w fun e w' => e = .returned (.bool true) ∧ Below w.heap.size w w' := by
  obtain ⟨i0, hi, hz0, hz1, hz2⟩ := info_parts infoSl
  have zok : Okay Sp.zero := ⟨by decide, by decide, by decide, zeros_dig⟩
  have OKL := Lib.hid hv.ok
  have OKY := Lib.hid hv1.ok
  obtain ⟨b1, cap1, rfl, hcap, _⟩ := hv.is
  obtain ⟨n1, hn1⟩ : ∃ n1, n1 = L.length := ⟨_, rfl⟩
  rw [← hn1] at hv hcap hl ⊢
  obtain ⟨b2, cap2, rfl, hcap2, _⟩ := hv1.is
  obtain ⟨n2, hn2⟩ : ∃ n2, n2 = Y.length := ⟨_, rfl⟩
  rw [← hn2] at hv1 hcap2 hl1 ⊢
  obtain ⟨b3, cap3, rfl, hcap3, _⟩ := hk.is
  obtain ⟨n3, hn3⟩ : ∃ n3, n3 = ks.length := ⟨_, rfl⟩
  rw [← hn3] at hk hcap3 hlk ⊢
  have HN1 := Lib.hid hn1
  have HN2 := Lib.hid hn2
  have HN3 := Lib.hid hn3
  clear hn1 hn2 hn3
  have HV : Hid (∀ u, Below w.heap.size w u → SlsAt u (.slice b1 n1 cap1) L) := Lib.hid fun u h => hv.below h
  have HV1 : Hid (∀ u, Below w.heap.size w u → SlsAt u (.slice b2 n2 cap2) Y) := Lib.hid fun u h => hv1.below h
  have HK := Lib.hid hk
  have HG0 := Lib.hid hg0
  clear hv hv1 hk hg0
  go_enter Try.func4, Try.ntmps4
  go_wp2_with fail
  refine (awake_any _).mono ?_
  rintro e w2 ⟨rfl, F⟩
  have GR := great_any (HV.out w2 F) (by have := HN1.out; omega) 0 0 0 0 ⟨#[]⟩ (by decide) Sp.zero zok
  rw [HG0.out] at GR
  go_wp2_with (with_reducible refine wpl_act_l (b := b1) (len := n1) (cap := cap1) ?_ rfl ?_ ?_; (· kernel_rfl); (· kernel_rfl))
  refine GR.mono ?_
  rintro e w3 ⟨rfl, G⟩
  clear GR
  replace F := F.trans (G.mono F.size)
  clear G
  have GR := great_any (HV1.out w3 F) (by have := HN2.out; omega) 0 0 0 0 ⟨#[]⟩ (by decide) Sp.zero zok
  rw [hg1] at GR
  go_wp2_with (with_reducible refine wpl_act_l (b := b2) (len := n2) (cap := cap2) ?_ rfl ?_ ?_; (· kernel_rfl); (· kernel_rfl))
  refine GR.mono ?_
  rintro e w4 ⟨rfl, G⟩
  clear GR
  replace F := F.trans (G.mono F.size)
  clear G
  have l20 : ¬ (20 : Int) < (n3 : Int) := by have := HN3.out; omega
  have hl20 : n1 ≤ 20 := by have := greatL_no HG0.out; have := HN1.out; omega
  have hy20 : n2 ≤ 20 := by have := greatL_no hg1; have := HN2.out; omega
  clear hg1
  have C0 := dnew w F 1048576
  go_wp2_with fail
  refine C0.mono ?_
  rintro e w5 ⟨p, rfl, h, G⟩
  clear C0 G F
  have C := open_new h (by decide)
  clear h
  go_wp2_with fail
  refine C.mono ?_
  rintro e w6 ⟨q, g, cap, rfl, _, hg, _⟩
  clear C
  simp only [List.length_nil] at hg ⊢
  have own := World.ownsRow_made (base := w.heap.size) (e := 37) (size := 38) w6 #[] 0 hg.below.size (Nat.zero_le _) rfl
  replace hg := (hg.kept ((Below.refl _ _).alloc (Nat.le_refl _) (.cells #[] 37))).up (M := 3 + ((0 : Nat) : Int)) (by omega)
  go_upto_region 10 with (fail)
  generalize w6.alloc (.cells #[] 37) = w7 at own hg ⊢
  go_wp2
  go_loopw [13, 14] (fun vv i wr => ∃ (u : World) (k : Nat) (xs : List Sp), u = wr ∧ k ≤ n1 ∧ i = .int .i64 k ∧ xs.length ≤ k ∧ HG w u p q xs 0 1048576 (3 + (k : Int)) [] ∧ u.ownsRow (w.heap.size) 37 38 vv xs.length (slsL xs)) (fun _ i _ => n1 - (intOf i).toNat)
  case atStart => exact ⟨_, 0, [], rfl, Nat.zero_le _, rfl, Nat.le_refl _, hg, own⟩
  case round =>
    clear hg own
    obtain ⟨u, k, xs, rfl, hk, rfl, hxk, hg, own⟩ := hrel
    by_cases hlt : k < n1
    · obtain ⟨x, hx⟩ : ∃ x, L[k]? = some x := ⟨L[k]'(by have := HN1.out; omega), List.getElem?_eq_getElem _⟩
      have xok := OKL.out x (List.mem_of_getElem? hx)
      have lt : (k : Int) < (n1 : Int) := by omega
      obtain ⟨a1, rfl, _, LXX⟩ := (HV.out u hg.below).loads hx
      have HX := Lib.hid hx
      clear hx
      by_cases can : Can x
      · go_wp2_with (refine wpl_load LXX rfl rfl rfl ?_)
        refine (add_good hg can (by omega) (by decide) (by omega)).mono ?_
        rintro e w3 ⟨rfl, hg3, kp⟩
        clear hg LXX
        replace own := kp.owns own
        clear kp
        obtain ⟨a2, e2, _, LXX⟩ := (HV.out w3 hg3.below).loads HX.out
        injection e2 with e2
        subst e2
        have mle : w.heap.size ≤ w3.heap.size := by have := hg3.below.size; omega
        have hg4 := hg3.kept ((Below.refl _ _).alloc (Nat.le_refl _) (.cells (slV x) 37))
        have own0 := own.alloc (.cells (slV x) 37)
        clear own hg3
        go_upto_region 12 with (first | refine wpl_load LXX rfl rfl rfl ?_ | refine wpl_build (slV_size xok.dig.len) rfl rfl rfl ?_ | (at_builtin; refine wpList_append_own _ rfl _ _ 22 rfl (w.heap.size) 37 i0 (.agg #[.int .i64 0, .string ⟨#[]⟩, .string ⟨#[]⟩, .int .u8 0, .int .u8 0, .int .u8 0, .int .u8 0, .int .u8 0, .int .u8 0, .int .u8 0, .int .u8 0, .int .u8 0, .int .u8 0, .int .u8 0, .int .u8 0, .int .u8 0, .int .u8 0, .int .u8 0, .int .u8 0, .int .u8 0, .int .u8 0, .int .u8 0, .int .u8 0, .int .u8 0, .int .u8 0, .int .u8 0, .int .u8 0, .int .u8 0, .int .u8 0, .int .u8 0, .int .u8 0, .int .u8 0, .int .u8 0, .int .u8 0, .int .u8 0, .string ⟨#[]⟩, .int .i64 0, .int .i64 0]) 38 104 Try.underlying22 hi hz0 hz1 hz2 rfl (by decide) _ _ _ rfl own0 ⟨w3.heap.size, 0, none⟩ 1 1 (slL x) rfl ?c0 ?c1 (slL_one x) ?c3 ?c4 ?c5 ?_))
        case c0 => rw [slL_len xok.dig.len]
        case c1 => exact new_cells w3 x
        case c3 => unfold maxLen; omega
        case c4 => omega
        case c5 => simp; omega
        intro v' w4 own4 hgrow _
        have hg5 := hg4.grown hgrow (owns_row own0 (by omega))
        have own5 : w4.ownsRow (w.heap.size) 37 38 v' (xs ++ [x]).length (slsL (xs ++ [x])) := by
          rw [slsL_snoc, List.length_append]
          exact own4
        clear own4 own0 hg4 hgrow LXX
        go_wp2
        go_roundw
        case rel => exact ⟨_, k + 1, xs ++ [x], rfl, by omega, by go_num, by rw [List.length_append]; simp; omega, hg5.up (by omega), own5⟩
        case measure => simp [intOf]; omega
      · go_wp2_with (refine wpl_load LXX rfl rfl rfl ?_)
        refine (add_not hg xok can (by omega) (by omega)).mono ?_
        rintro e w3 ⟨rfl, hg3, kp⟩
        clear hg LXX
        replace own := kp.owns own
        clear kp
        go_wp2
        go_roundw
        case rel => exact ⟨_, k + 1, xs, rfl, by omega, by go_num, by omega, hg3.up (by omega), own⟩
        case measure => simp [intOf]; omega
    · have lt : ¬ (k : Int) < (n1 : Int) := by omega
      have hx20 : xs.length ≤ 20 := by omega
      replace hg := hg.up (M := 23) (by omega)
      have OX : Hid (∀ z ∈ xs, Okay z) := Lib.hid fun z hz => by
        obtain ⟨D, _, h2⟩ := hg.is
        exact can_okay (h2.can z hz)
      obtain ⟨gv, cv, rfl⟩ := owns_slice own

      have C := sync_good hg (by decide)
      clear hg
      go_wp2_with fail
      refine C.mono ?_
      rintro e w5 ⟨rfl, hg, kp⟩
      clear C
      replace own := kp.owns own
      clear kp
      obtain ⟨D, h1, h2⟩ := hg.is
      clear hg
      go_wp2_with fail
      refine (arm_any h1 h2.toMild (by decide) _ 2 0 (by decide)).mono ?_
      rintro e w6 ⟨rfl, ⟨D1, h3, m3⟩, kp⟩
      clear h1 h2
      replace own := kp.owns own
      clear kp
      have hn := m3.n
      have C := rewrite_any h3 (by omega) (HV1.out w6 h3.below) (by have := HN2.out; omega)
      clear h3
      cases hall : Y.all canB with
      | false =>
        rw [rewL_no hall] at C
        clear hall
        go_wp2_with fail
        refine C.mono ?_
        rintro e w7 ⟨rfl, h4, kp⟩
        clear C
        have C := len_has h4
        go_wp2_with fail
        refine C.mono ?_
        rintro e w8 ⟨rfl, rfl⟩
        simp only [lgOf]
        go_wp2
        go_ret
        exact ⟨rfl, h4.below⟩
      | true =>
        obtain ⟨er, E, M, zs, E2, rm, hR, hE, g2, hn2, hw⟩ := rew_back m3 (by omega) (allCan.1 hall) (by have := HN2.out; omega) (by decide) (lgOf xs xs.length false) ks
        rw [hR] at C
        have OZ : Hid (∀ z ∈ zs, Okay z) := Lib.hid fun z hz => can_okay (g2.can z hz)
        have lz : zs.length ≤ 20 := by
          rcases hw with ⟨_, rfl⟩ | ⟨_, _, rfl⟩
          · have := HN2.out; omega
          · omega
        have ne1 : (er == 1) = false := by
          rcases hw with ⟨rfl, _⟩ | ⟨_, h, _⟩
          · rfl
          · simpa using h
        have ne2 : ¬ er = 1 := by simpa using ne1
        clear hall hR
        go_wp2_with fail
        refine C.mono ?_
        rintro e w7 ⟨rfl, h4, kp⟩
        clear C
        replace own := kp.owns own
        clear kp
        have C := off_has h4.disk
        clear h4
        go_wp2_with fail
        refine C.mono ?_
        rintro e w8 ⟨rfl, h5, kp⟩
        clear C
        replace own := kp.owns own
        clear kp
        have C := on_args h5 HK.out (by have := HN3.out; omega)
        clear h5
        go_wp2_with fail
        refine C.mono ?_
        rintro e w9 ⟨rfl, h6, kp⟩
        clear C
        replace own := kp.owns own
        clear kp
        have C := open_found h6 (by omega) hE g2
        clear h6 hE
        go_wp2_with fail
        refine C.mono ?_
        rintro e w10 ⟨q2, gf, cf, rfl, own2, hg, kp⟩
        clear C
        replace own := kp.owns own
        clear kp
        have C := hg.sick
        go_wp2_with fail
        refine C.mono ?_
        rintro e w11 ⟨rfl, rfl⟩
        clear C
        have C := hg.new
        go_wp2_with fail
        refine C.mono ?_
        rintro e w12 ⟨rfl, rfl⟩
        clear C
        have sz := owns_sls own2 OZ.out
        have S := same_any sz (HV1.out w10 hg.below) (by omega) (by have := HN2.out; omega)
        rcases hw with ⟨rfl, rfl⟩ | ⟨h0, _, rfl⟩
        · rw [sameB_yes rfl] at S
          clear sz own own2
          go_wp2_with fail
          refine S.mono ?_
          rintro e w13 ⟨rfl, G⟩
          have F := hg.below.trans (G.mono hg.below.size)
          go_wp2
          go_ret
          exact ⟨rfl, F⟩
        · have ne3 : (er == 0) = false := by simpa using h0
          by_cases hc : zs = Y
          · rw [sameB_yes hc] at S
            clear sz own own2 hc
            go_wp2_with fail
            refine S.mono ?_
            rintro e w13 ⟨rfl, G⟩
            have F := hg.below.trans (G.mono hg.below.size)
            go_wp2
            go_ret
            exact ⟨rfl, F⟩
          · rw [sameB_no hc] at S
            clear hc
            go_wp2_with fail
            refine S.mono ?_
            rintro e w13 ⟨rfl, G⟩
            clear S
            have F := hg.below.trans (G.mono hg.below.size)
            have S := same_any (sz.below G) ((owns_sls own OX.out).below G) (by omega) (by omega)
            rw [sameB_yes rfl] at S
            clear sz own own2 G hg
            go_wp2_with fail
            refine S.mono ?_
            rintro e w14 ⟨rfl, G⟩
            replace F := F.trans (G.mono F.size)
            go_wp2
            go_ret
            exact ⟨rfl, F⟩
end Go.Proofs.Ytdmgobffhpgjlaa.Sl.Dg
