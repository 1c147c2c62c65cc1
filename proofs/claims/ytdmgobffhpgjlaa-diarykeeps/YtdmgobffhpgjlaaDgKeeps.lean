/-
  Wherever the power goes: the walk of DiaryKeeps.
-/
import Derived.Test.YtdmgobffhpgjlaaDgKeepsA
import Derived.Deep.CutBlock
import Derived.Deep.DeepCutAuto
namespace Go.Proofs.Ytdmgobffhpgjlaa.Sl.Dg
open Go.RowKit Go.PlainAid Go.Proofs.Ytdmgobffhpgjlaa.Cr
open Go.Proofs.Ytdmgobffhpgjlaa.Pk (Bs Fi Dk kl HasD has_new KeepAt on_post)
set_option linter.unusedVariables false
set_option maxRecDepth 20000
set_option linter.unusedSimpArgs false

set_option maxRecDepth 100000 in
set_option maxHeartbeats 64000000 in
theorem keeps_main {v0 v1 : Value} (L : List Sp) (Bl : List Bool) (pl kp : Int) {w : World} (hv : SlsAt w v0 L) (hl : L.length ≤ 9223372036854775807) (hb : BoolsAt w v1 Bl) (hlb : Bl.length ≤ 9223372036854775807) (wf : (Lit.int .i64 pl).wf = true) :
    Calls Try.prog 3 #[v0, v1, .int .i64 pl, .int .i64 kp] w fun e w' => e = .returned (.bool true) ∧ Below w.heap.size w w' := by
  obtain ⟨i0, hi, hz0, hz1, hz2⟩ := info_parts infoSl
  have OKL := Lib.hid hv.ok
  obtain ⟨b1, cap1, rfl, hcap, _⟩ := hv.is
  obtain ⟨n1, hn1⟩ : ∃ n1, n1 = L.length := ⟨_, rfl⟩
  rw [← hn1] at hv hcap hl ⊢
  obtain ⟨b2, cap2, rfl, hbc⟩ := hb.is
  obtain ⟨n2, hn2⟩ : ∃ n2, n2 = Bl.length := ⟨_, rfl⟩
  rw [← hn2] at hb hlb ⊢
  have HN1 := Lib.hid hn1
  have HN2 := Lib.hid hn2
  clear hn1 hn2
  have HV : Hid (∀ u, Below w.heap.size w u → SlsAt u (.slice b1 n1 cap1) L) := Lib.hid fun u h => hv.below h
  have HBC : Hid (∀ u, Below w.heap.size w u → ∀ k x, Bl[k]? = some x → ∃ a : Addr, b2 = some a ∧ u.cell? (a.add k) = some (.bool x)) := Lib.hid fun u h k x hk => by
    obtain ⟨a, e, ha, hc⟩ := hbc k x hk
    exact ⟨a, e, by rw [World.cell?_of_block (w := w) (by rw [add_block]; exact h.block _ ha)]; exact hc⟩
  clear hv hb hbc
  go_enter Try.func3, Try.ntmps3
  go_wp2_with fail
  refine (awake_any _).mono ?_
  rintro e w2 ⟨rfl, F⟩
  have C0 := dnew w F 1048576
  go_wp2_with fail
  refine C0.mono ?_
  rintro e w5 ⟨p, rfl, h, _⟩
  clear C0 F
  have C := open_new h (by decide)
  clear h
  go_wp2_with fail
  refine C.mono ?_
  rintro e w6 ⟨q, g, cap, rfl, _, hg, _⟩
  clear C
  obtain ⟨D, h1, h2⟩ := hg.is
  clear hg
  simp only [List.length_nil]
  go_wp2_with fail
  refine (arm_any h1 h2.toMild (by decide) _ 2 0 (by decide)).mono ?_
  rintro e w7 ⟨rfl, ⟨D1, h3, m3⟩, _⟩
  clear h1 h2
  have own := World.ownsRow_made (base := w.heap.size) (e := 37) (size := 38) w7 #[] 0 h3.below.size (Nat.zero_le _) rfl
  replace h3 := h3.alloc (.cells #[] 37)
  replace m3 := m3.up (M := 3 + 2 * ((0 : Nat) : Int)) (by omega)
  go_upto_region 9 with (fail)
  generalize w7.alloc (.cells #[] 37) = w8 at own h3 ⊢
  go_upto_block 0 with fail
  go_cut [13] (fun v u => KeepRel w p q v u)
  case first =>
    as_aux_lemma =>
    go_wp2
    go_loopw [13, 14] (fun vv i wr => ∃ (u : World) (k : Nat) (D : Dk) (xs : List Sp) (j : Nat), u = wr ∧ k ≤ 60 ∧ k ≤ n1 ∧ i = .int .i64 k ∧ xs.length ≤ k ∧ HasL w u p q D (lgOf xs j false) [] ∧ Mild D xs j 1048576 (3 + 2 * (k : Int)) ∧ u.ownsRow w.heap.size 37 38 vv xs.length (slsL xs)) (fun _ i _ => 60 - (intOf i).toNat)
    case atStart => exact ⟨_, 0, D1, [], 0, rfl, Nat.zero_le _, Nat.zero_le _, rfl, Nat.le_refl _, h3, m3, own⟩
    case round =>
      clear h3 m3 own D
      obtain ⟨u, k, D, xs, j, rfl, hk60, hk, rfl, hxk, h, m, own⟩ := hrel
      by_cases hlt : k < n1
      rotate_left
      · have lt : ¬ (k : Int) < (n1 : Int) := by omega
        go_wp2_with fail
        go_meet
        case rel => exact ⟨D, xs, j, false, h, m.up (by omega), by omega, own⟩
      have lt : (k : Int) < (n1 : Int) := by omega
      by_cases h60 : k < 60
      rotate_left
      · have l60 : ¬ (k : Int) < 60 := by omega
        go_wp2_with fail
        go_meet
        case rel => exact ⟨D, xs, j, false, h, m.up (by omega), by omega, own⟩
      have l60 : (k : Int) < 60 := by omega
      obtain ⟨x, hx⟩ : ∃ x, L[k]? = some x := ⟨L[k]'(by have := HN1.out; omega), List.getElem?_eq_getElem _⟩
      have xok := OKL.out x (List.mem_of_getElem? hx)
      obtain ⟨a1, rfl, _, LXX⟩ := (HV.out u h.below).loads hx
      have HX := Lib.hid hx
      clear hx
      have GR := great_any (none_sls u) (by simp) 0 0 0 0 ⟨#[]⟩ (by decide) x xok
      go_wp2_with (first | refine wpl_load LXX rfl rfl rfl ?_ | (with_reducible refine wpl_act_x xok.dig.len ?_ rfl ?_ ?_; (· kernel_rfl); (· kernel_rfl)))
      refine GR.mono ?_
      rintro e w3 ⟨rfl, G⟩
      clear GR LXX
      replace h := h.kept G
      replace own := owns_below own G
      clear G
      cases hgr : greatA [] ⟨#[]⟩ x with
      | true =>
        clear hgr
        go_wp2
        go_ret
        exact ⟨rfl, h.below⟩
      | false =>
        clear hgr
        obtain ⟨a2, e2, _, LXX⟩ := (HV.out w3 h.below).loads HX.out
        injection e2 with e2
        subst e2
        have hn := m.n
        have C := add_any h (by omega) (m.fits (by omega) _) x xok
        clear h
        by_cases can : Can x
        rotate_left
        · rw [addL_no rfl can] at C
          go_wp2_with (refine wpl_load LXX rfl rfl rfl ?_)
          refine C.mono ?_
          rintro e w4 ⟨rfl, h, kp⟩
          clear C LXX
          replace own := kp.owns own
          clear kp
          go_wp2
          go_roundw
          case rel => exact ⟨_, k + 1, D, xs, j, rfl, by omega, by omega, by go_num, by omega, h, m.up (by omega), own⟩
          case measure => simp [intOf]; omega
        obtain ⟨E, ⟨hA, mE⟩ | ⟨e1, ne0, ne1, hA, mE⟩⟩ := mild_add m can (by omega) (by decide)
        rotate_left
        · rw [hA] at C
          clear hA
          have q0 : (e1 == 1) = false := by simpa using ne1
          have q1 : (e1 != 0) = true := by simpa using ne0
          go_wp2_with (refine wpl_load LXX rfl rfl rfl ?_)
          refine C.mono ?_
          rintro e w4 ⟨rfl, h, kp⟩
          clear C LXX
          replace own := kp.owns own
          clear kp
          go_wp2_with fail
          go_meet
          case rel => exact ⟨E, xs, j, true, h, mE.up (by omega), by omega, own⟩
        rw [hA] at C
        clear hA m
        go_wp2_with (refine wpl_load LXX rfl rfl rfl ?_)
        refine C.mono ?_
        rintro e w4 ⟨rfl, h, kp⟩
        clear C LXX
        replace own := kp.owns own
        clear kp
        obtain ⟨a2, e2, _, LXX⟩ := (HV.out w4 h.below).loads HX.out
        injection e2 with e2
        subst e2
        have mle := h.below.size
        have h5 := h.alloc (.cells (slV x) 37)
        have own0 := own.alloc (.cells (slV x) 37)
        clear own h
        go_upto_region 18 with (first | refine wpl_load LXX rfl rfl rfl ?_ | refine wpl_build (slV_size xok.dig.len) rfl rfl rfl ?_ | (at_builtin; refine wpList_append_own _ rfl _ _ 22 rfl w.heap.size 37 i0 (.agg #[.int .i64 0, .string ⟨#[]⟩, .string ⟨#[]⟩, .int .u8 0, .int .u8 0, .int .u8 0, .int .u8 0, .int .u8 0, .int .u8 0, .int .u8 0, .int .u8 0, .int .u8 0, .int .u8 0, .int .u8 0, .int .u8 0, .int .u8 0, .int .u8 0, .int .u8 0, .int .u8 0, .int .u8 0, .int .u8 0, .int .u8 0, .int .u8 0, .int .u8 0, .int .u8 0, .int .u8 0, .int .u8 0, .int .u8 0, .int .u8 0, .int .u8 0, .int .u8 0, .int .u8 0, .int .u8 0, .int .u8 0, .int .u8 0, .string ⟨#[]⟩, .int .i64 0, .int .i64 0]) 38 104 Try.underlying22 hi hz0 hz1 hz2 rfl (by decide) _ _ _ rfl own0 ⟨w4.heap.size, 0, none⟩ 1 1 (slL x) rfl ?c0 ?c1 (slL_one x) ?c3 ?c4 ?c5 ?_))
        case c0 => rw [slL_len xok.dig.len]
        case c1 => exact new_cells w4 x
        case c3 => unfold maxLen; omega
        case c4 => omega
        case c5 => simp; omega
        intro v' w5 own4 hgrow _
        have h6 := h5.grown hgrow (owns_row own0 (Nat.le_refl _))
        have own5 : w5.ownsRow w.heap.size 37 38 v' (xs ++ [x]).length (slsL (xs ++ [x])) := by
          rw [slsL_snoc, List.length_append]
          exact own4
        have lx : (xs ++ [x]).length ≤ k + 1 := by rw [List.length_append]; simp; omega
        clear own4 own0 h5 hgrow LXX
        by_cases hs : k < n2
        rotate_left
        · have ls : ¬ (k : Int) < (n2 : Int) := by omega
          go_wp2
          go_roundw
          case rel => exact ⟨_, k + 1, E, xs ++ [x], j, rfl, by omega, by omega, by go_num, lx, h6, mE.up (by omega), own5⟩
          case measure => simp [intOf]; omega
        have ls : (k : Int) < (n2 : Int) := by omega
        obtain ⟨bb, hbb⟩ : ∃ bb, Bl[k]? = some bb := ⟨Bl[k]'(by have := HN2.out; omega), List.getElem?_eq_getElem _⟩
        obtain ⟨a3, rfl, cb⟩ := HBC.out w5 h6.below k bb hbb
        clear hbb
        cases bb with
        | false =>
          go_wp2
          go_roundw
          case rel => exact ⟨_, k + 1, E, xs ++ [x], j, rfl, by omega, by omega, by go_num, lx, h6, mE.up (by omega), own5⟩
          case measure => simp [intOf]; omega
        | true =>
          have hn2 := mE.n
          have C := sync_any h6 (by omega)
          clear h6
          obtain ⟨E2, ⟨hA, m2⟩ | ⟨e1, ne0, hA, m2⟩⟩ := mild_sync mE
          · rw [hA] at C
            clear hA
            go_wp2_with fail
            refine C.mono ?_
            rintro e w6 ⟨rfl, h, kp⟩
            clear C
            replace own5 := kp.owns own5
            clear kp
            go_wp2
            go_roundw
            case rel => exact ⟨_, k + 1, E2, xs ++ [x], (xs ++ [x]).length, rfl, by omega, by omega, by go_num, lx, h, m2.up (by omega), own5⟩
            case measure => simp [intOf]; omega
          · rw [hA] at C
            clear hA
            have q1 : (e1 != 0) = true := by simpa using ne0
            go_wp2_with fail
            refine C.mono ?_
            rintro e w6 ⟨rfl, h, kp⟩
            clear C
            replace own5 := kp.owns own5
            clear kp
            go_wp2_with fail
            go_meet
            case rel => exact ⟨E2, xs ++ [x], j, true, h, m2.up (by omega), by omega, own5⟩
  case rest =>
    as_aux_lemma =>
    clear own h3 m3 D HV HBC OKL
    obtain ⟨D, xs, j, kk, h, m, hx60, own⟩ := hcut
    have OX : Hid (∀ z ∈ xs, Okay z) := Lib.hid fun z hz => can_okay (m.can z hz)
    obtain ⟨gv, cv, rfl⟩ := owns_slice own
    have C := sure_has h
    go_wp2_with fail
    refine C.mono ?_
    rintro e w3 ⟨rfl, rfl⟩
    clear C
    have C := off_has h.disk
    clear h
    go_wp2_with fail
    refine C.mono ?_
    rintro e w4 ⟨rfl, h5, k5⟩
    clear C
    replace own := k5.owns own
    clear k5
    have C := on1_has h5 kp
    clear h5
    go_wp2_with fail
    refine C.mono ?_
    rintro e w5 ⟨rfl, h6, k6⟩
    clear C
    replace own := k6.owns own
    clear k6
    obtain ⟨t, E, i, hE, hrd, hji, hix, hn1, hn2, hno, hyes⟩ := keep_back m (by omega) (by decide) [kp]
    have C := open_any h6 (by omega)
    have HRD := Lib.hid hrd
    have HNO := Lib.hid hno
    have HYES := Lib.hid hyes
    have HE := Lib.hid hE
    clear h6 hrd hno hyes hE
    go_wp2_with fail
    refine C.mono ?_
    rintro e w6 (⟨c, _⟩ | ⟨_, q2, v, zs, n, rfl, rd, ok, own2, hl2, k7⟩)
    · rw [HE.out] at c
      exact absurd rfl c
    clear C
    rw [HE.out] at rd hl2
    obtain ⟨rfl, rfl⟩ := HRD.out _ _ rd
    clear rd HRD HE
    simp only at hl2
    replace own := k7.owns own
    clear k7
    obtain ⟨gf0, cf, rfl⟩ := owns_slice own2
    have he : xs.take (xs.take i).length = xs.take i := by rw [List.length_take, Nat.min_eq_left hix]
    have hfl : (xs.take i).length = i := by rw [List.length_take, Nat.min_eq_left hix]
    have BG := begins_any (owns_sls own OX.out) (owns_sls own2 ok) (by omega) (by omega) he
    have OF := Lib.hid ok
    clear ok he own
    generalize xs.take i = fs at BG own2 hl2 OF HNO HYES hfl ⊢
    have lj : ¬ (fs.length : Int) < (j : Int) := by omega
    have lf : fs.length ≤ 60 := by omega
    clear hfl
    go_wp2_with fail
    refine BG.mono ?_
    rintro e w7 ⟨rfl, G⟩
    clear BG
    replace hl2 := hl2.kept G
    replace own2 := owns_below own2 G
    clear G
    have C := sure_has hl2
    go_wp2_with fail
    refine C.mono ?_
    rintro e w8 ⟨rfl, rfl⟩
    clear C
    go_upto_region 25 with (fail)
    go_cut [140] (fun b u => KeepRel2 w p q2 fs (.slice gf0 fs.length cf) b u)
    case first =>
      cases hs : decide ((recs fs).length < t.length) with
      | false =>
        have g2 := HNO.out hs
        rw [hs] at hl2
        have C := sick_has hl2
        go_wp2_with fail
        refine C.mono ?_
        rintro e w9 ⟨rfl, rfl⟩
        clear C
        go_wp2_with fail
        go_meet
        case rel => exact ⟨rfl, ⟨E, hl2, g2.up (by omega)⟩, own2⟩
      | true =>
        obtain ⟨F2, hR, g2⟩ := HYES.out ⟨(fs.length : Int), ((recs fs).length : Int), (fs.length : Int), true⟩ hs
        rw [hs] at hl2
        clear hs
        have C := sick_has hl2
        go_wp2_with fail
        refine C.mono ?_
        rintro e w9 ⟨rfl, rfl⟩
        clear C
        have C := rewrite_any hl2 (by omega) (owns_sls own2 OF.out) (by omega)
        rw [hR] at C
        clear hl2 hR
        go_wp2_with fail
        refine C.mono ?_
        rintro e w10 ⟨rfl, hl3, k10⟩
        clear C
        replace own2 := k10.owns own2
        clear k10
        go_wp2_with fail
        go_meet
        case rel => exact ⟨rfl, ⟨F2, hl3, g2.up (by omega)⟩, own2⟩
    case rest =>
      clear own2 hl2 HNO HYES
      obtain ⟨rfl, hg, own2⟩ := hcut
      obtain ⟨w9, S9, X, G9, Z9⟩ := k_keep wc 5
      replace hg := hg.kept G9
      replace own2 := owns_below own2 G9
      clear Z9 G9
      go_upto_region 28 with (refine wpl_store S9 rfl rfl rfl rfl rfl ?_)
      clear S9
      generalize wc.heap.size = B at X ⊢
      replace X : At w9 B 37 (slV xg) := X
      have LX := sl_loads X xg_okay.dig.len
      have C := add_good hg xg_can (by omega) (by decide) (by decide)
      clear hg
      go_wp2_with (refine wpl_load LX rfl rfl rfl ?_)
      refine C.mono ?_
      rintro e w10 ⟨rfl, hg, k10⟩
      clear C LX
      replace own2 := k10.owns own2
      replace X := k10.at X
      clear k10
      have C := sync_good hg (by decide)
      clear hg
      go_wp2_with fail
      refine C.mono ?_
      rintro e w11 ⟨rfl, hg, k11⟩
      clear C
      replace own2 := k11.owns own2
      replace X := k11.at X
      clear k11
      obtain ⟨D6, h7, g7⟩ := hg.is
      clear hg
      have C := off_has h7.disk
      clear h7
      go_wp2_with fail
      refine C.mono ?_
      rintro e w12 ⟨rfl, h8, k12⟩
      clear C
      replace own2 := k12.owns own2
      replace X := k12.at X
      clear k12
      have C := on_has h8
      clear h8
      go_wp2_with fail
      refine C.mono ?_
      rintro e w13 ⟨rfl, h9, k13⟩
      clear C
      replace own2 := k13.owns own2
      replace X := k13.at X
      clear k13
      have C := open_good h9 (good_on g7.toMild []) (by decide)
      clear h9 g7
      go_wp2_with fail
      refine C.mono ?_
      rintro e wz ⟨q3, ga, ca, rfl, own3, hg, k14⟩
      clear C
      replace own2 := k14.owns own2
      replace X := k14.at X
      clear k14
      have ks : KS w wz wz.heap.size B (.slice gf0 fs.length cf) (.slice ga (fs ++ [xg]).length ca) fs := ⟨X, own2, own3, hg.below, X.lt, fun b hb => (own2.lt b hb).2, fun b hb => (own3.lt b hb).2, hg.below.size, Nat.le_refl _⟩
      have OG : Hid (∀ z ∈ fs ++ [xg], Okay z) := Lib.hid fun z hz => by
        rcases List.mem_append.1 hz with c | c
        · exact OF.out z c
        · simp at c; subst c; exact xg_okay
      clear own3 hg X
      generalize hnA : (fs ++ [xg]).length = nA at ks ⊢
      clear hnA
      go_upto_region 33 with (fail)
      obtain ⟨M, hM⟩ : ∃ M, M = wz.heap.size := ⟨_, rfl⟩
      rw [← hM] at ks
      clear hM
      rcases own2.2 with ⟨ev, e0⟩ | ⟨gf, cap2', cur, ev, _⟩
      · injection ev with e1 e2 e3
        subst e1 e3
        have HF : Hid (fs = []) := Lib.hid (List.eq_nil_of_length_eq_zero e0)
        rw [e2] at ks ⊢
        clear own2 e0 e2
        refine wp_region_held (S := fun z => KS w z M B (.slice none 0 0) (.slice ga nA ca) fs) (by kernel_rfl) ?_
        change wpAnyH _ _ _ _ _ _ _ _ wz.drew
        replace ks := ks.drew
        generalize wz.drew = z0 at ks ⊢
        have LH : Hid (∀ z, KS w z M B (.slice none 0 0) (.slice ga nA ca) fs → Loads Try.prog z 37 ⟨B, 0, none⟩ (slV xg)) := Lib.hid fun z j => sl_loads j.x xg_okay.dig.len
        refine held_take 0 (.int .i64 0) rfl (by kernel_rfl) (by kernel_rfl) (by kernel_rfl) (fun _ _ _ h => h) (Or.inl ⟨by rfl, fun x j => by go_simp⟩) ks (fun K hK => ?_)
        go_simp
        refine hK _ _ ?_
        clear hK K
        refine held_take 1 (.bool true) rfl (by kernel_rfl) (by kernel_rfl) (by kernel_rfl) (fun _ _ _ h => h) (Or.inl ⟨by rfl, fun x j => by go_simp⟩) ks (fun K hK => ?_)
        go_simp
        refine hK _ _ ?_
        clear hK K
        refine held_take 2 (.bool true) rfl (by kernel_rfl) (by kernel_rfl) (by kernel_rfl) (fun _ _ _ h => h) (Or.inl ⟨by rfl, fun x j => by go_simp⟩) ks (fun K hK => ?_)
        go_simp
        refine hK _ _ ?_
        clear hK K
        refine held_take 3 (.slice ga nA ca) rfl (by kernel_rfl) (by kernel_rfl) (by kernel_rfl) (fun _ _ _ h => h) (Or.inl ⟨by rfl, fun x j => by go_simp⟩) ks (fun K hK => ?_)
        go_simp
        refine hK _ _ ?_
        clear hK K
        refine held_take 5 ((.slice none 0 0)) rfl (by kernel_rfl) (by kernel_rfl) (by kernel_rfl) (fun _ _ _ h => h) (Or.inl ⟨by rfl, fun x j => by go_simp⟩) ks (fun K hK => ?_)
        go_simp
        refine hK _ _ ?_
        clear hK K
        refine held_take 7 (.agg (slV xg)) rfl (by kernel_rfl) (by kernel_rfl) (by kernel_rfl) (fun _ _ _ h => h) (yields_load LH.out rfl rfl rfl) ks (fun K hK => ?_)
        go_simp
        refine hK _ _ ?_
        clear hK K
        refine held_two 4 8 (by kernel_rfl) (fun K hK => wpOp_in rfl rfl ?_) (fun K hK => wpOp_in rfl rfl ?_)
        · go_simp
          have k1 := ks.alloc (.cells #[] 37)
          refine hK _ _ k1 ?_
          clear hK K
          have own := World.ownsRow_made (base := M) (e := 37) (size := 38) z0 #[] 0 ks.lt.2.2.2.2 (Nat.zero_le _) rfl
          have r4 : M ≤ z0.heap.size := ks.lt.2.2.2.2
          have s4 : z0.heap.size < (z0.alloc (.cells #[] 37)).heap.size := by simp
          clear ks
          generalize z0.alloc (.cells #[] 37) = z1 at k1 own s4 ⊢
          generalize z0.heap.size = g4 at own r4 s4 ⊢
          refine held_two 6 8 (by kernel_rfl) (fun K hK => wpOp_in rfl rfl ?_) (fun K hK => wpOp_in rfl rfl ?_)
          · refine op_append_none rfl rfl own rfl ?_
            refine hK _ _ k1 ?_
            clear hK K
            have k2 := k1
            have own6 : z1.ownsRow M 37 38 (.slice (some ⟨g4, 0, none⟩) 0 0) fs.length (slsL fs) := by rw [HF.out]; exact own
            clear own k1
            generalize z1 = z2 at k2 own6 ⊢
            generalize (Value.slice (some ⟨g4, 0, none⟩) 0 0) = v6 at own6 ⊢
            refine held_one 8 (by kernel_rfl) (fun K hK => wpOp_in rfl rfl ?_)
            refine op_built1 xg_okay rfl rfl ?_
            have k3 := k2.alloc (.cells (slV xg) 37)
            refine hK _ _ k3 ?_
            clear hK K
            have x8 := At.new z2 37 (slV xg)
            have r8 : M ≤ z2.heap.size := k2.lt.2.2.2.2
            replace own6 := own6.alloc (.cells (slV xg) 37)
            clear k2
            generalize z2.alloc (.cells (slV xg) 37) = z3 at k3 x8 own6 ⊢
            generalize z2.heap.size = g8 at x8 r8 ⊢
            refine held_one 9 (by kernel_rfl) (fun K hK => wpOp_in rfl rfl ?_)
            refine op_append rfl rfl own6 rfl (by rw [slL_len xg_okay.dig.len]) (fun j u hj => by rw [add_at, Nat.zero_add, x8.cell]; simpa [slV] using hj) (slL_one xg) (by omega) k3.lt.2.2.2.2 ?_
            intro v9 z9 own9 hgr
            have k9 := k3.grown hgr fun k hk => (own6.lt k hk).1
            refine hK _ _ k9 ?_
            clear hK K
            have own10 : z9.ownsRow M 37 38 v9 (fs ++ [xg]).length (slsL (fs ++ [xg])) := by rw [slsL_snoc, List.length_append]; exact own9
            clear own9 own6 x8 hgr k3
            have S9 := same_any (owns_sls k9.a OG.out) (owns_sls own10 OG.out) (by rw [List.length_append]; simp; omega) (by rw [List.length_append]; simp; omega)
            rw [sameB_yes rfl] at S9
            clear own10
            refine held_one 10 (by kernel_rfl) (fun K hK => wpOp_in rfl rfl ?_)
            go_simp
            refine S9.mono ?_
            rintro e z10 ⟨rfl, G10⟩
            clear S9
            have k10 := k9.below G10
            refine hK _ _ k10 ?_
            clear hK K k9 G10
            refine held_take 11 (.bool true) rfl (by kernel_rfl) (by kernel_rfl) (by kernel_rfl) (fun _ _ _ h => h) (Or.inl ⟨by rfl, fun x j => by go_simp⟩) k10 (fun K hK => ?_)
            go_simp
            refine hK _ _ ?_
            clear hK K
            refine held_take 12 (.bool true) rfl (by kernel_rfl) (by kernel_rfl) (by kernel_rfl) (fun _ _ _ h => h) (Or.inl ⟨by rfl, fun x j => by go_simp⟩) k10 (fun K hK => ?_)
            go_simp
            refine hK _ _ ?_
            clear hK K
            refine wpAnyH_done (by kernel_rfl) ?_ _
            go_wp2
            go_ret
            exact ⟨rfl, k10.bel⟩
          · refine op_built1 xg_okay rfl rfl ?_
            have k2 := k1.alloc (.cells (slV xg) 37)
            refine hK _ _ k2 ?_
            clear hK K
            have x8 := At.new z1 37 (slV xg)
            have n48 : g4 < z1.heap.size := s4
            have r8 : M ≤ z1.heap.size := k1.lt.2.2.2.2
            replace own := own.alloc (.cells (slV xg) 37)
            clear k1 s4
            generalize z1.alloc (.cells (slV xg) 37) = z2 at k2 x8 own ⊢
            generalize z1.heap.size = g8 at x8 n48 r8 ⊢
            refine held_one 6 (by kernel_rfl) (fun K hK => wpOp_in rfl rfl ?_)
            refine op_append_none rfl rfl own rfl ?_
            refine hK _ _ k2 ?_
            clear hK K
            have k3 := k2
            have own6 : z2.ownsRow M 37 38 (.slice (some ⟨g4, 0, none⟩) 0 0) fs.length (slsL fs) := by rw [HF.out]; exact own
            clear own k2
            generalize z2 = z3 at k3 own6 x8 ⊢
            generalize (Value.slice (some ⟨g4, 0, none⟩) 0 0) = v6 at own6 ⊢
            refine held_one 9 (by kernel_rfl) (fun K hK => wpOp_in rfl rfl ?_)
            refine op_append rfl rfl own6 rfl (by rw [slL_len xg_okay.dig.len]) (fun j u hj => by rw [add_at, Nat.zero_add, x8.cell]; simpa [slV] using hj) (slL_one xg) (by omega) k3.lt.2.2.2.2 ?_
            intro v9 z9 own9 hgr
            have k9 := k3.grown hgr fun k hk => (own6.lt k hk).1
            refine hK _ _ k9 ?_
            clear hK K
            have own10 : z9.ownsRow M 37 38 v9 (fs ++ [xg]).length (slsL (fs ++ [xg])) := by rw [slsL_snoc, List.length_append]; exact own9
            clear own9 own6 x8 hgr k3
            have S9 := same_any (owns_sls k9.a OG.out) (owns_sls own10 OG.out) (by rw [List.length_append]; simp; omega) (by rw [List.length_append]; simp; omega)
            rw [sameB_yes rfl] at S9
            clear own10
            refine held_one 10 (by kernel_rfl) (fun K hK => wpOp_in rfl rfl ?_)
            go_simp
            refine S9.mono ?_
            rintro e z10 ⟨rfl, G10⟩
            clear S9
            have k10 := k9.below G10
            refine hK _ _ k10 ?_
            clear hK K k9 G10
            refine held_take 11 (.bool true) rfl (by kernel_rfl) (by kernel_rfl) (by kernel_rfl) (fun _ _ _ h => h) (Or.inl ⟨by rfl, fun x j => by go_simp⟩) k10 (fun K hK => ?_)
            go_simp
            refine hK _ _ ?_
            clear hK K
            refine held_take 12 (.bool true) rfl (by kernel_rfl) (by kernel_rfl) (by kernel_rfl) (fun _ _ _ h => h) (Or.inl ⟨by rfl, fun x j => by go_simp⟩) k10 (fun K hK => ?_)
            go_simp
            refine hK _ _ ?_
            clear hK K
            refine wpAnyH_done (by kernel_rfl) ?_ _
            go_wp2
            go_ret
            exact ⟨rfl, k10.bel⟩
        · refine op_built1 xg_okay rfl rfl ?_
          have k1 := ks.alloc (.cells (slV xg) 37)
          refine hK _ _ k1 ?_
          clear hK K
          have x8 := At.new z0 37 (slV xg)
          have r8 : M ≤ z0.heap.size := ks.lt.2.2.2.2
          clear ks
          generalize z0.alloc (.cells (slV xg) 37) = z1 at k1 x8 ⊢
          generalize z0.heap.size = g8 at x8 r8 ⊢
          refine held_one 4 (by kernel_rfl) (fun K hK => wpOp_in rfl rfl ?_)
          go_simp
          have k2 := k1.alloc (.cells #[] 37)
          refine hK _ _ k2 ?_
          clear hK K
          have own := World.ownsRow_made (base := M) (e := 37) (size := 38) z1 #[] 0 k1.lt.2.2.2.2 (Nat.zero_le _) rfl
          have r4 : M ≤ z1.heap.size := k1.lt.2.2.2.2
          have n48 : g8 < z1.heap.size := x8.lt
          replace x8 := x8.alloc (.cells #[] 37)
          clear k1
          generalize z1.alloc (.cells #[] 37) = z2 at k2 own x8 ⊢
          generalize z1.heap.size = g4 at own r4 n48 ⊢
          refine held_one 6 (by kernel_rfl) (fun K hK => wpOp_in rfl rfl ?_)
          refine op_append_none rfl rfl own rfl ?_
          refine hK _ _ k2 ?_
          clear hK K
          have k3 := k2
          have own6 : z2.ownsRow M 37 38 (.slice (some ⟨g4, 0, none⟩) 0 0) fs.length (slsL fs) := by rw [HF.out]; exact own
          clear own k2
          generalize z2 = z3 at k3 own6 x8 ⊢
          generalize (Value.slice (some ⟨g4, 0, none⟩) 0 0) = v6 at own6 ⊢
          refine held_one 9 (by kernel_rfl) (fun K hK => wpOp_in rfl rfl ?_)
          refine op_append rfl rfl own6 rfl (by rw [slL_len xg_okay.dig.len]) (fun j u hj => by rw [add_at, Nat.zero_add, x8.cell]; simpa [slV] using hj) (slL_one xg) (by omega) k3.lt.2.2.2.2 ?_
          intro v9 z9 own9 hgr
          have k9 := k3.grown hgr fun k hk => (own6.lt k hk).1
          refine hK _ _ k9 ?_
          clear hK K
          have own10 : z9.ownsRow M 37 38 v9 (fs ++ [xg]).length (slsL (fs ++ [xg])) := by rw [slsL_snoc, List.length_append]; exact own9
          clear own9 own6 x8 hgr k3
          have S9 := same_any (owns_sls k9.a OG.out) (owns_sls own10 OG.out) (by rw [List.length_append]; simp; omega) (by rw [List.length_append]; simp; omega)
          rw [sameB_yes rfl] at S9
          clear own10
          refine held_one 10 (by kernel_rfl) (fun K hK => wpOp_in rfl rfl ?_)
          go_simp
          refine S9.mono ?_
          rintro e z10 ⟨rfl, G10⟩
          clear S9
          have k10 := k9.below G10
          refine hK _ _ k10 ?_
          clear hK K k9 G10
          refine held_take 11 (.bool true) rfl (by kernel_rfl) (by kernel_rfl) (by kernel_rfl) (fun _ _ _ h => h) (Or.inl ⟨by rfl, fun x j => by go_simp⟩) k10 (fun K hK => ?_)
          go_simp
          refine hK _ _ ?_
          clear hK K
          refine held_take 12 (.bool true) rfl (by kernel_rfl) (by kernel_rfl) (by kernel_rfl) (fun _ _ _ h => h) (Or.inl ⟨by rfl, fun x j => by go_simp⟩) k10 (fun K hK => ?_)
          go_simp
          refine hK _ _ ?_
          clear hK K
          refine wpAnyH_done (by kernel_rfl) ?_ _
          go_wp2
          go_ret
          exact ⟨rfl, k10.bel⟩
      · injection ev with e1 e2 e3
        subst e1 e3
        clear own2 e2
        refine wp_region_held (S := fun z => KS w z M B (.slice (some ⟨gf, 0, none⟩) fs.length cf) (.slice ga nA ca) fs) (by kernel_rfl) ?_
        change wpAnyH _ _ _ _ _ _ _ _ wz.drew
        replace ks := ks.drew
        generalize wz.drew = z0 at ks ⊢
        have LH : Hid (∀ z, KS w z M B (.slice (some ⟨gf, 0, none⟩) fs.length cf) (.slice ga nA ca) fs → Loads Try.prog z 37 ⟨B, 0, none⟩ (slV xg)) := Lib.hid fun z j => sl_loads j.x xg_okay.dig.len
        refine held_take 0 (.int .i64 0) rfl (by kernel_rfl) (by kernel_rfl) (by kernel_rfl) (fun _ _ _ h => h) (Or.inl ⟨by rfl, fun x j => by go_simp⟩) ks (fun K hK => ?_)
        go_simp
        refine hK _ _ ?_
        clear hK K
        refine held_take 1 (.bool true) rfl (by kernel_rfl) (by kernel_rfl) (by kernel_rfl) (fun _ _ _ h => h) (Or.inl ⟨by rfl, fun x j => by go_simp⟩) ks (fun K hK => ?_)
        go_simp
        refine hK _ _ ?_
        clear hK K
        refine held_take 2 (.bool true) rfl (by kernel_rfl) (by kernel_rfl) (by kernel_rfl) (fun _ _ _ h => h) (Or.inl ⟨by rfl, fun x j => by go_simp⟩) ks (fun K hK => ?_)
        go_simp
        refine hK _ _ ?_
        clear hK K
        refine held_take 3 (.slice ga nA ca) rfl (by kernel_rfl) (by kernel_rfl) (by kernel_rfl) (fun _ _ _ h => h) (Or.inl ⟨by rfl, fun x j => by go_simp⟩) ks (fun K hK => ?_)
        go_simp
        refine hK _ _ ?_
        clear hK K
        refine held_take 5 ((.slice (some ⟨gf, 0, none⟩) fs.length cf)) rfl (by kernel_rfl) (by kernel_rfl) (by kernel_rfl) (fun _ _ _ h => h) (Or.inl ⟨by rfl, fun x j => by go_simp⟩) ks (fun K hK => ?_)
        go_simp
        refine hK _ _ ?_
        clear hK K
        refine held_take 7 (.agg (slV xg)) rfl (by kernel_rfl) (by kernel_rfl) (by kernel_rfl) (fun _ _ _ h => h) (yields_load LH.out rfl rfl rfl) ks (fun K hK => ?_)
        go_simp
        refine hK _ _ ?_
        clear hK K
        refine held_two 4 8 (by kernel_rfl) (fun K hK => wpOp_in rfl rfl ?_) (fun K hK => wpOp_in rfl rfl ?_)
        · go_simp
          have k1 := ks.alloc (.cells #[] 37)
          refine hK _ _ k1 ?_
          clear hK K
          have own := World.ownsRow_made (base := M) (e := 37) (size := 38) z0 #[] 0 ks.lt.2.2.2.2 (Nat.zero_le _) rfl
          have r4 : M ≤ z0.heap.size := ks.lt.2.2.2.2
          have s4 : z0.heap.size < (z0.alloc (.cells #[] 37)).heap.size := by simp
          clear ks
          generalize z0.alloc (.cells #[] 37) = z1 at k1 own s4 ⊢
          generalize z0.heap.size = g4 at own r4 s4 ⊢
          refine held_two 6 8 (by kernel_rfl) (fun K hK => wpOp_in rfl rfl ?_) (fun K hK => wpOp_in rfl rfl ?_)
          · refine op_append rfl rfl own rfl (slsL_len OF.out) (fun j u hj => k1.f.cells rfl j u hj) (slsL_one fs) (by omega) k1.lt.2.2.2.2 ?_
            intro v6 z2 own6 hgr
            have k2 := k1.grown hgr fun k hk => (own.lt k hk).1
            refine hK _ _ k2 ?_
            clear hK K
            replace own6 : z2.ownsRow M 37 38 v6 fs.length (slsL fs) := by simpa using own6
            clear own hgr k1
            refine held_one 8 (by kernel_rfl) (fun K hK => wpOp_in rfl rfl ?_)
            refine op_built1 xg_okay rfl rfl ?_
            have k3 := k2.alloc (.cells (slV xg) 37)
            refine hK _ _ k3 ?_
            clear hK K
            have x8 := At.new z2 37 (slV xg)
            have r8 : M ≤ z2.heap.size := k2.lt.2.2.2.2
            replace own6 := own6.alloc (.cells (slV xg) 37)
            clear k2
            generalize z2.alloc (.cells (slV xg) 37) = z3 at k3 x8 own6 ⊢
            generalize z2.heap.size = g8 at x8 r8 ⊢
            refine held_one 9 (by kernel_rfl) (fun K hK => wpOp_in rfl rfl ?_)
            refine op_append rfl rfl own6 rfl (by rw [slL_len xg_okay.dig.len]) (fun j u hj => by rw [add_at, Nat.zero_add, x8.cell]; simpa [slV] using hj) (slL_one xg) (by omega) k3.lt.2.2.2.2 ?_
            intro v9 z9 own9 hgr
            have k9 := k3.grown hgr fun k hk => (own6.lt k hk).1
            refine hK _ _ k9 ?_
            clear hK K
            have own10 : z9.ownsRow M 37 38 v9 (fs ++ [xg]).length (slsL (fs ++ [xg])) := by rw [slsL_snoc, List.length_append]; exact own9
            clear own9 own6 x8 hgr k3
            have S9 := same_any (owns_sls k9.a OG.out) (owns_sls own10 OG.out) (by rw [List.length_append]; simp; omega) (by rw [List.length_append]; simp; omega)
            rw [sameB_yes rfl] at S9
            clear own10
            refine held_one 10 (by kernel_rfl) (fun K hK => wpOp_in rfl rfl ?_)
            go_simp
            refine S9.mono ?_
            rintro e z10 ⟨rfl, G10⟩
            clear S9
            have k10 := k9.below G10
            refine hK _ _ k10 ?_
            clear hK K k9 G10
            refine held_take 11 (.bool true) rfl (by kernel_rfl) (by kernel_rfl) (by kernel_rfl) (fun _ _ _ h => h) (Or.inl ⟨by rfl, fun x j => by go_simp⟩) k10 (fun K hK => ?_)
            go_simp
            refine hK _ _ ?_
            clear hK K
            refine held_take 12 (.bool true) rfl (by kernel_rfl) (by kernel_rfl) (by kernel_rfl) (fun _ _ _ h => h) (Or.inl ⟨by rfl, fun x j => by go_simp⟩) k10 (fun K hK => ?_)
            go_simp
            refine hK _ _ ?_
            clear hK K
            refine wpAnyH_done (by kernel_rfl) ?_ _
            go_wp2
            go_ret
            exact ⟨rfl, k10.bel⟩
          · refine op_built1 xg_okay rfl rfl ?_
            have k2 := k1.alloc (.cells (slV xg) 37)
            refine hK _ _ k2 ?_
            clear hK K
            have x8 := At.new z1 37 (slV xg)
            have n48 : g4 < z1.heap.size := s4
            have r8 : M ≤ z1.heap.size := k1.lt.2.2.2.2
            replace own := own.alloc (.cells (slV xg) 37)
            clear k1 s4
            generalize z1.alloc (.cells (slV xg) 37) = z2 at k2 x8 own ⊢
            generalize z1.heap.size = g8 at x8 n48 r8 ⊢
            refine held_one 6 (by kernel_rfl) (fun K hK => wpOp_in rfl rfl ?_)
            refine op_append rfl rfl own rfl (slsL_len OF.out) (fun j u hj => k2.f.cells rfl j u hj) (slsL_one fs) (by omega) k2.lt.2.2.2.2 ?_
            intro v6 z3 own6 hgr
            have k3 := k2.grown hgr fun k hk => (own.lt k hk).1
            refine hK _ _ k3 ?_
            clear hK K
            replace x8 := x8.same ((show z2.grownBy z3 (some g4) from hgr).block g8 x8.lt fun e => by injection e with e; omega)
            replace own6 : z3.ownsRow M 37 38 v6 fs.length (slsL fs) := by simpa using own6
            clear own hgr k2
            refine held_one 9 (by kernel_rfl) (fun K hK => wpOp_in rfl rfl ?_)
            refine op_append rfl rfl own6 rfl (by rw [slL_len xg_okay.dig.len]) (fun j u hj => by rw [add_at, Nat.zero_add, x8.cell]; simpa [slV] using hj) (slL_one xg) (by omega) k3.lt.2.2.2.2 ?_
            intro v9 z9 own9 hgr
            have k9 := k3.grown hgr fun k hk => (own6.lt k hk).1
            refine hK _ _ k9 ?_
            clear hK K
            have own10 : z9.ownsRow M 37 38 v9 (fs ++ [xg]).length (slsL (fs ++ [xg])) := by rw [slsL_snoc, List.length_append]; exact own9
            clear own9 own6 x8 hgr k3
            have S9 := same_any (owns_sls k9.a OG.out) (owns_sls own10 OG.out) (by rw [List.length_append]; simp; omega) (by rw [List.length_append]; simp; omega)
            rw [sameB_yes rfl] at S9
            clear own10
            refine held_one 10 (by kernel_rfl) (fun K hK => wpOp_in rfl rfl ?_)
            go_simp
            refine S9.mono ?_
            rintro e z10 ⟨rfl, G10⟩
            clear S9
            have k10 := k9.below G10
            refine hK _ _ k10 ?_
            clear hK K k9 G10
            refine held_take 11 (.bool true) rfl (by kernel_rfl) (by kernel_rfl) (by kernel_rfl) (fun _ _ _ h => h) (Or.inl ⟨by rfl, fun x j => by go_simp⟩) k10 (fun K hK => ?_)
            go_simp
            refine hK _ _ ?_
            clear hK K
            refine held_take 12 (.bool true) rfl (by kernel_rfl) (by kernel_rfl) (by kernel_rfl) (fun _ _ _ h => h) (Or.inl ⟨by rfl, fun x j => by go_simp⟩) k10 (fun K hK => ?_)
            go_simp
            refine hK _ _ ?_
            clear hK K
            refine wpAnyH_done (by kernel_rfl) ?_ _
            go_wp2
            go_ret
            exact ⟨rfl, k10.bel⟩
        · refine op_built1 xg_okay rfl rfl ?_
          have k1 := ks.alloc (.cells (slV xg) 37)
          refine hK _ _ k1 ?_
          clear hK K
          have x8 := At.new z0 37 (slV xg)
          have r8 : M ≤ z0.heap.size := ks.lt.2.2.2.2
          clear ks
          generalize z0.alloc (.cells (slV xg) 37) = z1 at k1 x8 ⊢
          generalize z0.heap.size = g8 at x8 r8 ⊢
          refine held_one 4 (by kernel_rfl) (fun K hK => wpOp_in rfl rfl ?_)
          go_simp
          have k2 := k1.alloc (.cells #[] 37)
          refine hK _ _ k2 ?_
          clear hK K
          have own := World.ownsRow_made (base := M) (e := 37) (size := 38) z1 #[] 0 k1.lt.2.2.2.2 (Nat.zero_le _) rfl
          have r4 : M ≤ z1.heap.size := k1.lt.2.2.2.2
          have n48 : g8 < z1.heap.size := x8.lt
          replace x8 := x8.alloc (.cells #[] 37)
          clear k1
          generalize z1.alloc (.cells #[] 37) = z2 at k2 own x8 ⊢
          generalize z1.heap.size = g4 at own r4 n48 ⊢
          refine held_one 6 (by kernel_rfl) (fun K hK => wpOp_in rfl rfl ?_)
          refine op_append rfl rfl own rfl (slsL_len OF.out) (fun j u hj => k2.f.cells rfl j u hj) (slsL_one fs) (by omega) k2.lt.2.2.2.2 ?_
          intro v6 z3 own6 hgr
          have k3 := k2.grown hgr fun k hk => (own.lt k hk).1
          refine hK _ _ k3 ?_
          clear hK K
          replace x8 := x8.same ((show z2.grownBy z3 (some g4) from hgr).block g8 x8.lt fun e => by injection e with e; omega)
          replace own6 : z3.ownsRow M 37 38 v6 fs.length (slsL fs) := by simpa using own6
          clear own hgr k2
          refine held_one 9 (by kernel_rfl) (fun K hK => wpOp_in rfl rfl ?_)
          refine op_append rfl rfl own6 rfl (by rw [slL_len xg_okay.dig.len]) (fun j u hj => by rw [add_at, Nat.zero_add, x8.cell]; simpa [slV] using hj) (slL_one xg) (by omega) k3.lt.2.2.2.2 ?_
          intro v9 z9 own9 hgr
          have k9 := k3.grown hgr fun k hk => (own6.lt k hk).1
          refine hK _ _ k9 ?_
          clear hK K
          have own10 : z9.ownsRow M 37 38 v9 (fs ++ [xg]).length (slsL (fs ++ [xg])) := by rw [slsL_snoc, List.length_append]; exact own9
          clear own9 own6 x8 hgr k3
          have S9 := same_any (owns_sls k9.a OG.out) (owns_sls own10 OG.out) (by rw [List.length_append]; simp; omega) (by rw [List.length_append]; simp; omega)
          rw [sameB_yes rfl] at S9
          clear own10
          refine held_one 10 (by kernel_rfl) (fun K hK => wpOp_in rfl rfl ?_)
          go_simp
          refine S9.mono ?_
          rintro e z10 ⟨rfl, G10⟩
          clear S9
          have k10 := k9.below G10
          refine hK _ _ k10 ?_
          clear hK K k9 G10
          refine held_take 11 (.bool true) rfl (by kernel_rfl) (by kernel_rfl) (by kernel_rfl) (fun _ _ _ h => h) (Or.inl ⟨by rfl, fun x j => by go_simp⟩) k10 (fun K hK => ?_)
          go_simp
          refine hK _ _ ?_
          clear hK K
          refine held_take 12 (.bool true) rfl (by kernel_rfl) (by kernel_rfl) (by kernel_rfl) (fun _ _ _ h => h) (Or.inl ⟨by rfl, fun x j => by go_simp⟩) k10 (fun K hK => ?_)
          go_simp
          refine hK _ _ ?_
          clear hK K
          refine wpAnyH_done (by kernel_rfl) ?_ _
          go_wp2
          go_ret
          exact ⟨rfl, k10.bel⟩
end Go.Proofs.Ytdmgobffhpgjlaa.Sl.Dg
