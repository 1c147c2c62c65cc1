/-
  SlipBack, walked: what it holds in memory, what holds at each round.
-/
import Derived.Test.YtahalddoloppmaaSlAwake
import Derived.Test.YtahalddoloppmaaSlOpen
namespace Go.Proofs.Ytahalddoloppmaa.Sl
open Go.RowKit Go.PlainAid Go.Proofs.Ytahalddoloppmaa.Cr
set_option linter.unusedVariables false
set_option linter.unusedSimpArgs false

/-- what the law holds at each round: the slips of the row, the other slip, the row that is wanted -/
structure St (w0 w : World) (N B : Nat) (v0 v : Value) (L : List Sp) (y : Sp) (xs : List Sp) : Prop where
  l : SlsAt w v0 L
  o : At w B 25 (slV y)
  own : w.ownsRow N 25 38 v xs.length (slsL xs)
  bel : Below w0.heap.size w0 w
  hN : w0.heap.size ≤ N ∧ B < N ∧ N ≤ w.heap.size
  can : ∀ x ∈ xs, Can x
  lb : ∃ M, M ≤ N ∧ ∀ a n c, v0 = .slice (some a) n c → L ≠ [] → a.block < M
theorem St.below {w0 w w' : World} {N B : Nat} {v0 v : Value} {L : List Sp} {y : Sp} {xs : List Sp} (h : St w0 w N B v0 v L y xs) (hb : Below w.heap.size w w') : St w0 w' N B v0 v L y xs :=
  ⟨h.l.below hb, h.o.old hb, owns_below h.own hb, h.bel.trans (hb.mono h.bel.size), ⟨h.hN.1, h.hN.2.1, Nat.le_trans h.hN.2.2 hb.size⟩, h.can, h.lb⟩
theorem St.drew {w0 w : World} {N B : Nat} {v0 v : Value} {L : List Sp} {y : Sp} {xs : List Sp} (h : St w0 w N B v0 v L y xs) : St w0 w.drew N B v0 v L y xs := h.below ((Below.refl _ _).drew)
theorem sls_grown {w w' : World} {v0 : Value} {L : List Sp} {row : Option Nat} (h : SlsAt w v0 L) (hg : w.grownBy w' row) (hr : ∀ k, row = some k → ∀ a n c, v0 = .slice (some a) n c → L ≠ [] → a.block ≠ k) : SlsAt w' v0 L := by
  obtain ⟨base, cap, rfl, hl, hc⟩ := h.is
  refine ⟨⟨base, cap, rfl, hl, fun j x hj => ?_⟩, h.ok⟩
  obtain ⟨a, rfl, ha, hcell⟩ := hc j x hj
  have hne : L ≠ [] := by intro e; rw [e] at hj; simp at hj
  have hb : w'.heap[a.block]? = w.heap[a.block]? := hg.block _ ha fun e => hr a.block e.symm a _ _ rfl hne rfl
  refine ⟨a, rfl, Nat.lt_of_lt_of_le ha hg.size, fun i c hi => ?_⟩
  rw [World.cell?_of_block (w := w) (by rw [add_block, add_block]; exact hb)]
  exact hcell i c hi
theorem St.more {w0 w w' : World} {N B : Nat} {v0 v v' : Value} {L : List Sp} {y x : Sp} {xs : List Sp} (h : St w0 w N B v0 v L y xs) (hx : Can x)
    (own : w'.ownsRow N 25 38 v' (xs.length + 1) (slsL xs ++ slL x)) (hg : (w.alloc (.cells (slV x) 25)).grownBy w' v.ownBlock) : St w0 w' N B v0 v' L y (xs ++ [x]) := by
  have hlt : ∀ k, v.ownBlock = some k → N ≤ k := fun k hk => (h.own.lt k hk).1
  have hb := (Below.refl w.heap.size w).alloc (Nat.le_refl _) (.cells (slV x) 25)
  have h2 := h.below hb
  obtain ⟨M, hM, hM2⟩ := h.lb
  refine ⟨sls_grown h2.l hg fun k hk a n c e hne => ?_, h2.o.same (hg.block B h2.o.lt fun e => ?_), ?_, h2.bel.grown hg h2.bel.size (fun k hk => Nat.le_trans h.hN.1 (hlt k hk)), ⟨h.hN.1, h.hN.2.1, Nat.le_trans h2.hN.2.2 hg.size⟩, ?_, h.lb⟩
  · have h3 := hM2 a n c e hne
    have h4 := hlt k hk
    omega
  · have := hlt B e.symm
    have := h.hN.2.1
    omega
  · rw [slsL_snoc, List.length_append]
    exact own
  · intro z hz
    rcases List.mem_append.1 hz with c | c
    · exact h.can z c
    · simp at c; subst c; exact hx
theorem rec_inj {x y : Sp} (hx : Can x) (hy : Can y) (h : recL (bodyL x) = recL (bodyL y)) : x = y := by
  have h1 := congrArg List.length h
  rw [rec_len, rec_len] at h1
  have h2 := congrArg (List.drop 6) h
  have e : ∀ b, (recL b).drop 6 = b := fun b => by
    unfold recL
    exact List.drop_left' (by simp [be_len, le_len])
  rw [e, e] at h2
  exact body_inj hx hy h2
theorem strs_inj {a b : List Nat} (ha : ∀ x ∈ a, x < 256) (hb : ∀ x ∈ b, x < 256) (h : strOf a = strOf b) : a = b := by
  rw [← bl_strOf ha, ← bl_strOf hb, h]
set_option maxRecDepth 100000 in
set_option maxHeartbeats 4000000 in
theorem back_yes {v0 : Value} (L : List Sp) (y : Sp) {w : World} (hv : SlsAt w v0 L) (yok : Okay y) (hl : L.length ≤ 40) (hg : greatB y = false) (hy : Can y) :
    Calls Try.prog 5 #[v0, .agg (slV y)] w fun e w' => e = .returned (.bool true) ∧ Below w.heap.size w w' := by
  obtain ⟨i0, hi, hz0, hz1, hz2⟩ := info_parts infoSl
  have LB : Hid (∀ a n c, v0 = .slice (some a) n c → L ≠ [] → a.block < w.heap.size) := Lib.hid (by
    intro a n c e hne
    obtain ⟨base, cap, e2, _, hc⟩ := hv.is
    rw [e2] at e
    injection e with e3 _ _
    obtain ⟨x, hx⟩ : ∃ x, L[0]? = some x := by
      cases L with
      | nil => exact absurd rfl hne
      | cons x L => exact ⟨x, rfl⟩
    obtain ⟨a', e4, h4, _⟩ := hc 0 x hx
    rw [e3] at e4
    injection e4 with e4
    rw [e4]
    exact h4)
  have OKL := Lib.hid hv.ok
  have X := At.new w 25 (slV y)
  have F : Below w.heap.size w (w.alloc (.cells (slV y) 25)) := (Below.refl _ _).alloc (Nat.le_refl _) _
  replace hv := hv.below F
  obtain ⟨b1, cap1, rfl, hcap, _⟩ := hv.is
  obtain ⟨n1, hn1⟩ : ∃ n1, n1 = L.length := ⟨_, rfl⟩
  rw [← hn1] at hv hl LB hcap ⊢
  have HN1 := Lib.hid hn1
  clear hn1
  go_enter Try.func5, Try.ntmps5
  go_upto_region 1 with (fail)
  obtain ⟨B, hB⟩ : ∃ B, B = w.heap.size := ⟨_, rfl⟩
  rw [← hB] at X ⊢
  have HB := Lib.hid hB
  clear hB
  generalize w.alloc (.cells (slV y) 25) = w1 at X F hv ⊢
  go_wp2_with fail
  refine (awake_any _).mono ?_
  rintro e w2 ⟨rfl, G1⟩
  replace X := X.old G1
  replace hv := hv.below G1
  replace F := F.trans (G1.mono F.size)
  clear G1
  have LX := sl_loads X yok.dig.len
  have l40 : decide ((40 : Int) < (n1 : Int)) = false := by simp; omega
  go_wp2_with (refine wpl_load_in LX rfl rfl rfl ?_)
  refine (great_any y _ yok).mono ?_
  rintro e w3 ⟨rfl, G1⟩
  rw [hg]
  replace X := X.old G1
  replace hv := hv.below G1
  replace F := F.trans (G1.mono F.size)
  clear G1 LX
  have NF := F.size
  have own0 := World.ownsRow_made (base := w3.heap.size) (e := 25) (size := 38) w3 #[] 0 (Nat.le_refl _) (Nat.zero_le _) rfl
  have G : St w (w3.alloc (.cells #[] 25)) w3.heap.size B (.slice b1 n1 cap1) (.slice (some ⟨w3.heap.size, 0, none⟩) 0 0) L y [] :=
    ⟨hv.below ((Below.refl _ _).alloc (Nat.le_refl _) _), X.alloc _, own0, F.alloc F.size _, ⟨NF, X.lt, by simp⟩, by simp, w.heap.size, NF, LB.out⟩
  clear own0 hv X F LB
  go_upto_region 7 with (fail)
  generalize w3.alloc (.cells #[] 25) = w4 at G ⊢
  generalize w3.heap.size = N at G NF ⊢
  have LX := sl_loads G.o yok.dig.len
  go_wp2_with (refine wpl_load LX rfl rfl rfl ?_)
  refine (write_yes y _ yok hy).mono ?_
  rintro e w5 ⟨rfl, G1⟩
  replace G := G.below G1
  clear G1 LX
  obtain ⟨so, hso⟩ : ∃ so, so = strOf (recL (bodyL y)) := ⟨_, rfl⟩
  rw [← hso]
  have HSO := Lib.hid hso
  clear hso
  go_wp2
  go_loopw [5, 6, 9] (fun a v i wr => ∃ (k : Nat) (xs : List Sp), k ≤ n1 ∧ a = .string (strOf (recs xs)) ∧ i = .int .i64 k ∧ xs.length ≤ k ∧ St w wr N B (.slice b1 n1 cap1) v L y xs) (fun _ _ i _ => n1 - (intOf i).toNat)
  case atStart => exact ⟨0, [], Nat.zero_le _, rfl, rfl, Nat.le_refl _, G⟩
  case round =>
    clear G
    obtain ⟨k, xs, hk, rfl, rfl, hxk, G⟩ := hrel
    have hrl := recs_len_le G.can
    have hsz : (strOf (recs xs)).size ≤ 20000 := by rw [strOf_size]; omega
    by_cases hlt : k < n1
    · obtain ⟨x, hx⟩ : ∃ x, L[k]? = some x := ⟨L[k]'(by have := HN1.out; omega), List.getElem?_eq_getElem _⟩
      have xok := OKL.out x (List.mem_of_getElem? hx)
      obtain ⟨a1, rfl, _, LXX⟩ := G.l.loads hx
      have HX := Lib.hid hx
      clear hx
      have l1 : (k : Int) < (n1 : Int) := by omega
      go_wp2_with (refine wpl_load LXX rfl rfl rfl ?_)
      refine (great_any x _ xok).mono ?_
      rintro e wa ⟨rfl, G1⟩
      replace G := G.below G1
      clear G1 LXX
      cases hgx : greatB x with
      | true =>
        clear hgx
        go_wp2
        go_ret
        exact ⟨rfl, G.bel⟩
      | false =>
        clear hgx
        have LX : Hid (∀ z, St w z N B (.slice (some a1) n1 cap1) u6 L y xs → Loads Try.prog z 25 (a1.add (k * 38)) (slV x)) := Lib.hid fun z j => by
          obtain ⟨a, e, _, h⟩ := j.l.loads HX.out
          injection e with e
          subst e
          exact h
        have LXX := LX.out _ G
        by_cases can : Can x
        · obtain ⟨sx, hsx⟩ : ∃ sx, sx = strOf (recL (bodyL x)) := ⟨_, rfl⟩
          have zsx : sx.size ≤ 414 := by rw [hsx, strOf_size, rec_len]; have := (body_len can).2; omega
          go_wp2_with (refine wpl_load LXX rfl rfl rfl ?_)
          refine (write_yes x _ xok can).mono ?_
          rintro e wb ⟨rfl, G1⟩
          rw [← hsx]
          replace G := G.below G1
          clear G1 LXX
          have CAT : Hid (strOf (recs xs) ++ sx = strOf (recs (xs ++ [x]))) := Lib.hid (by rw [hsx, recs_append, recs_one, strOf_append])
          obtain ⟨q, hq⟩ : ∃ q, @decide (x = y) (Classical.propDecidable _) = q := ⟨_, rfl⟩
          have q1 := eq_slip xok.dig yok.dig
          rw [hq] at q1
          have q2 : (sx.toList == so.toList) = q := by
            rw [← hq, Bool.eq_iff_iff, toList_eq_iff, @decide_eq_true_iff _ (Classical.propDecidable _), hsx, HSO.out]
            exact ⟨fun c => rec_inj can hy (strs_inj (rec_lt (body_lt can.dig)) (rec_lt (body_lt hy.dig)) c), fun c => by rw [c]⟩
          clear hq
          clear hsx
          go_upto_region 15 with (fail)
          refine wp_region_held (S := fun z => St w z N B (.slice (some a1) n1 cap1) u6 L y xs) (by kernel_rfl) ?_
          change wpAnyH _ _ _ _ _ _ _ _ wb.drew
          replace G := G.drew
          generalize wb.drew = wc at G ⊢
          have LY : Hid (∀ z, St w z N B (.slice (some a1) n1 cap1) u6 L y xs → Loads Try.prog z 25 ⟨B, 0, none⟩ (slV y)) := Lib.hid fun z j => sl_loads j.o yok.dig.len
          refine held_take 0 (.int .i64 0) rfl (by kernel_rfl) (by kernel_rfl) (by kernel_rfl) (fun _ _ _ h => h) (Or.inl ⟨by rfl, fun x j => by go_simp⟩) G (fun K hK => ?_)
          go_simp
          refine hK _ _ ?_
          clear hK K
          refine held_take 1 (.bool true) rfl (by kernel_rfl) (by kernel_rfl) (by kernel_rfl) (fun _ _ _ h => h) (Or.inl ⟨by rfl, fun x j => by go_simp⟩) G (fun K hK => ?_)
          go_simp
          refine hK _ _ ?_
          clear hK K
          refine held_take 2 (.bool true) rfl (by kernel_rfl) (by kernel_rfl) (by kernel_rfl) (fun _ _ _ h => h) (Or.inl ⟨by rfl, fun x j => by go_simp⟩) G (fun K hK => ?_)
          go_simp
          refine hK _ _ ?_
          clear hK K
          refine held_take 3 (.string sx) rfl (by kernel_rfl) (by kernel_rfl) (by kernel_rfl) (fun _ _ _ h => h) (Or.inl ⟨by rfl, fun x j => by go_simp⟩) G (fun K hK => ?_)
          go_simp
          refine hK _ _ ?_
          clear hK K
          refine held_take 4 (.string so) rfl (by kernel_rfl) (by kernel_rfl) (by kernel_rfl) (fun _ _ _ h => h) (Or.inl ⟨by rfl, fun x j => by go_simp⟩) G (fun K hK => ?_)
          go_simp
          refine hK _ _ ?_
          clear hK K
          refine held_take 5 (.bool q) rfl (by kernel_rfl) (by kernel_rfl) (by kernel_rfl) (fun _ _ _ h => h) (Or.inl ⟨by rfl, fun x j => by go_simp⟩) G (fun K hK => ?_)
          go_simp
          refine hK _ _ ?_
          clear hK K
          refine held_take 6 (.slice (some a1) n1 cap1) rfl (by kernel_rfl) (by kernel_rfl) (by kernel_rfl) (fun _ _ _ h => h) (Or.inl ⟨by rfl, fun x j => by go_simp⟩) G (fun K hK => ?_)
          go_simp
          refine hK _ _ ?_
          clear hK K
          refine held_take 7 (.int .i64 (k : Int)) rfl (by kernel_rfl) (by kernel_rfl) (by kernel_rfl) (fun _ _ _ h => h) (Or.inl ⟨by rfl, fun x j => by go_simp⟩) G (fun K hK => ?_)
          go_simp
          refine hK _ _ ?_
          clear hK K
          refine held_take 8 (.pointer (some (a1.add (k * 38)))) rfl (by kernel_rfl) (by kernel_rfl) (by kernel_rfl) (fun _ _ _ h => h) (Or.inl ⟨by rfl, fun x j => by go_simp⟩) G (fun K hK => ?_)
          go_simp
          refine hK _ _ ?_
          clear hK K
          refine held_take 9 (.agg (slV x)) rfl (by kernel_rfl) (by kernel_rfl) (by kernel_rfl) (fun _ _ _ h => h) (yields_load LX.out rfl rfl rfl) G (fun K hK => ?_)
          go_simp
          refine hK _ _ ?_
          clear hK K
          refine held_take 10 (.agg (slV y)) rfl (by kernel_rfl) (by kernel_rfl) (by kernel_rfl) (fun _ _ _ h => h) (yields_load LY.out rfl rfl rfl) G (fun K hK => ?_)
          go_simp
          refine hK _ _ ?_
          clear hK K
          refine held_take 11 (.bool q) rfl (by kernel_rfl) (by kernel_rfl) (by kernel_rfl) (fun _ _ _ h => h) (Or.inl ⟨by rfl, fun x j => by go_simp⟩) G (fun K hK => ?_)
          go_simp
          refine hK _ _ ?_
          clear hK K
          refine held_take 12 (.bool false) rfl (by kernel_rfl) (by kernel_rfl) (by kernel_rfl) (fun _ _ _ h => h) (Or.inl ⟨by rfl, fun x j => by go_simp⟩) G (fun K hK => ?_)
          go_simp
          refine hK _ _ ?_
          clear hK K
          refine held_take 13 (.bool false) rfl (by kernel_rfl) (by kernel_rfl) (by kernel_rfl) (fun _ _ _ h => h) (Or.inl ⟨by rfl, fun x j => by go_simp⟩) G (fun K hK => ?_)
          go_simp
          refine hK _ _ ?_
          clear hK K
          refine wpAnyH_done (by kernel_rfl) ?_ _
          have LXX := LX.out _ G
          have bN : N ≤ wc.heap.size := G.hN.2.2
          clear LX LY
          go_upto_region 10 with (first | refine wpl_load LXX rfl rfl rfl ?_ | refine wpl_build (slV_size xok.dig.len) rfl rfl rfl ?_ | (at_builtin; refine wpList_append_own _ rfl _ _ 34 rfl N 25 i0 (.agg #[.int .i64 0, .string ⟨#[]⟩, .string ⟨#[]⟩, .int .u8 0, .int .u8 0, .int .u8 0, .int .u8 0, .int .u8 0, .int .u8 0, .int .u8 0, .int .u8 0, .int .u8 0, .int .u8 0, .int .u8 0, .int .u8 0, .int .u8 0, .int .u8 0, .int .u8 0, .int .u8 0, .int .u8 0, .int .u8 0, .int .u8 0, .int .u8 0, .int .u8 0, .int .u8 0, .int .u8 0, .int .u8 0, .int .u8 0, .int .u8 0, .int .u8 0, .int .u8 0, .int .u8 0, .int .u8 0, .int .u8 0, .int .u8 0, .string ⟨#[]⟩, .int .i64 0, .int .i64 0]) 38 104 Try.underlying34 hi hz0 hz1 hz2 rfl (by decide) _ _ _ rfl (G.own.alloc _) ⟨wc.heap.size, 0, none⟩ 1 1 (slL x) rfl ?c0 ?c1 (slL_one x) ?c3 ?c4 ?c5 ?_))
          case c0 => rw [slL_len xok.dig.len]
          case c1 => exact new_cells wc x
          case c3 => unfold maxLen; omega
          case c4 => omega
          case c5 => simp; omega
          intro v' w4 own4 hgrow _
          have G2 := G.more can own4 hgrow
          clear G LXX own4 hgrow
          go_wp2
          go_roundw
          case rel => exact ⟨k + 1, xs ++ [x], by omega, by rw [CAT.out], by go_num, by rw [List.length_append]; simp; omega, G2⟩
          case measure => simp [intOf]; omega
        · go_wp2_with (refine wpl_load LXX rfl rfl rfl ?_)
          refine (write_no x _ xok can).mono ?_
          rintro e wb ⟨rfl, G1⟩
          replace G := G.below G1
          clear G1 LXX LX
          go_wp2
          go_roundw
          case rel => exact ⟨k + 1, xs, by omega, rfl, by go_num, by omega, G⟩
          case measure => simp [intOf]; omega
    · have l1 : ¬ (k : Int) < (n1 : Int) := by omega
      have hb := bl_strOf (recs_lt G.can)
      have RA := Lib.hid (reads_all G.can)
      have HB2 := Lib.hid hb
      clear hb
      go_wp2_with fail
      refine (all_any _ _ (by omega)).mono ?_
      rintro e w7 ⟨ys, n, v, rfl, hv2, hr, G1⟩
      rw [HB2.out] at hr
      obtain ⟨rfl, rfl⟩ := reads_one RA.out hr
      replace G := G.below G1
      clear hr G1
      have want := owns_sls G.own fun z hz => can_okay (G.can z hz)
      have e39 : (recs xs).length = (strOf (recs xs)).size := by rw [strOf_size]
      rw [e39]
      go_wp2_with fail
      refine (same_any hv2 want (by omega) (by omega)).mono ?_
      rintro e w8 ⟨rfl, G1⟩
      rw [sameB_yes rfl]
      have F := G.bel.trans (G1.mono G.bel.size)
      go_wp2
      go_ret
      exact ⟨by simp, F⟩
set_option maxRecDepth 100000 in
set_option maxHeartbeats 4000000 in
theorem back_no {v0 : Value} (L : List Sp) (y : Sp) {w : World} (hv : SlsAt w v0 L) (yok : Okay y) (hl : L.length ≤ 40) (hg : greatB y = false) (hy : ¬ Can y) :
    Calls Try.prog 5 #[v0, .agg (slV y)] w fun e w' => e = .returned (.bool true) ∧ Below w.heap.size w w' := by
  obtain ⟨i0, hi, hz0, hz1, hz2⟩ := info_parts infoSl
  have LB : Hid (∀ a n c, v0 = .slice (some a) n c → L ≠ [] → a.block < w.heap.size) := Lib.hid (by
    intro a n c e hne
    obtain ⟨base, cap, e2, _, hc⟩ := hv.is
    rw [e2] at e
    injection e with e3 _ _
    obtain ⟨x, hx⟩ : ∃ x, L[0]? = some x := by
      cases L with
      | nil => exact absurd rfl hne
      | cons x L => exact ⟨x, rfl⟩
    obtain ⟨a', e4, h4, _⟩ := hc 0 x hx
    rw [e3] at e4
    injection e4 with e4
    rw [e4]
    exact h4)
  have OKL := Lib.hid hv.ok
  have X := At.new w 25 (slV y)
  have F : Below w.heap.size w (w.alloc (.cells (slV y) 25)) := (Below.refl _ _).alloc (Nat.le_refl _) _
  replace hv := hv.below F
  obtain ⟨b1, cap1, rfl, hcap, _⟩ := hv.is
  obtain ⟨n1, hn1⟩ : ∃ n1, n1 = L.length := ⟨_, rfl⟩
  rw [← hn1] at hv hl LB hcap ⊢
  have HN1 := Lib.hid hn1
  clear hn1
  go_enter Try.func5, Try.ntmps5
  go_upto_region 1 with (fail)
  obtain ⟨B, hB⟩ : ∃ B, B = w.heap.size := ⟨_, rfl⟩
  rw [← hB] at X ⊢
  have HB := Lib.hid hB
  clear hB
  generalize w.alloc (.cells (slV y) 25) = w1 at X F hv ⊢
  go_wp2_with fail
  refine (awake_any _).mono ?_
  rintro e w2 ⟨rfl, G1⟩
  replace X := X.old G1
  replace hv := hv.below G1
  replace F := F.trans (G1.mono F.size)
  clear G1
  have LX := sl_loads X yok.dig.len
  have l40 : decide ((40 : Int) < (n1 : Int)) = false := by simp; omega
  go_wp2_with (refine wpl_load_in LX rfl rfl rfl ?_)
  refine (great_any y _ yok).mono ?_
  rintro e w3 ⟨rfl, G1⟩
  rw [hg]
  replace X := X.old G1
  replace hv := hv.below G1
  replace F := F.trans (G1.mono F.size)
  clear G1 LX
  have NF := F.size
  have own0 := World.ownsRow_made (base := w3.heap.size) (e := 25) (size := 38) w3 #[] 0 (Nat.le_refl _) (Nat.zero_le _) rfl
  have G : St w (w3.alloc (.cells #[] 25)) w3.heap.size B (.slice b1 n1 cap1) (.slice (some ⟨w3.heap.size, 0, none⟩) 0 0) L y [] :=
    ⟨hv.below ((Below.refl _ _).alloc (Nat.le_refl _) _), X.alloc _, own0, F.alloc F.size _, ⟨NF, X.lt, by simp⟩, by simp, w.heap.size, NF, LB.out⟩
  clear own0 hv X F LB
  go_upto_region 7 with (fail)
  generalize w3.alloc (.cells #[] 25) = w4 at G ⊢
  generalize w3.heap.size = N at G NF ⊢
  have LX := sl_loads G.o yok.dig.len
  go_wp2_with (refine wpl_load LX rfl rfl rfl ?_)
  refine (write_no y _ yok hy).mono ?_
  rintro e w5 ⟨rfl, G1⟩
  replace G := G.below G1
  clear G1 LX
  skip
  go_wp2
  go_loopw [5, 6, 9] (fun a v i wr => ∃ (k : Nat) (xs : List Sp), k ≤ n1 ∧ a = .string (strOf (recs xs)) ∧ i = .int .i64 k ∧ xs.length ≤ k ∧ St w wr N B (.slice b1 n1 cap1) v L y xs) (fun _ _ i _ => n1 - (intOf i).toNat)
  case atStart => exact ⟨0, [], Nat.zero_le _, rfl, rfl, Nat.le_refl _, G⟩
  case round =>
    clear G
    obtain ⟨k, xs, hk, rfl, rfl, hxk, G⟩ := hrel
    have hrl := recs_len_le G.can
    have hsz : (strOf (recs xs)).size ≤ 20000 := by rw [strOf_size]; omega
    by_cases hlt : k < n1
    · obtain ⟨x, hx⟩ : ∃ x, L[k]? = some x := ⟨L[k]'(by have := HN1.out; omega), List.getElem?_eq_getElem _⟩
      have xok := OKL.out x (List.mem_of_getElem? hx)
      obtain ⟨a1, rfl, _, LXX⟩ := G.l.loads hx
      have HX := Lib.hid hx
      clear hx
      have l1 : (k : Int) < (n1 : Int) := by omega
      go_wp2_with (refine wpl_load LXX rfl rfl rfl ?_)
      refine (great_any x _ xok).mono ?_
      rintro e wa ⟨rfl, G1⟩
      replace G := G.below G1
      clear G1 LXX
      cases hgx : greatB x with
      | true =>
        clear hgx
        go_wp2
        go_ret
        exact ⟨rfl, G.bel⟩
      | false =>
        clear hgx
        have LX : Hid (∀ z, St w z N B (.slice (some a1) n1 cap1) u6 L y xs → Loads Try.prog z 25 (a1.add (k * 38)) (slV x)) := Lib.hid fun z j => by
          obtain ⟨a, e, _, h⟩ := j.l.loads HX.out
          injection e with e
          subst e
          exact h
        have LXX := LX.out _ G
        by_cases can : Can x
        · obtain ⟨sx, hsx⟩ : ∃ sx, sx = strOf (recL (bodyL x)) := ⟨_, rfl⟩
          have zsx : sx.size ≤ 414 := by rw [hsx, strOf_size, rec_len]; have := (body_len can).2; omega
          go_wp2_with (refine wpl_load LXX rfl rfl rfl ?_)
          refine (write_yes x _ xok can).mono ?_
          rintro e wb ⟨rfl, G1⟩
          rw [← hsx]
          replace G := G.below G1
          clear G1 LXX
          have CAT : Hid (strOf (recs xs) ++ sx = strOf (recs (xs ++ [x]))) := Lib.hid (by rw [hsx, recs_append, recs_one, strOf_append])
          skip
          clear hsx
          go_upto_region 15 with (fail)
          refine wp_region_held (S := fun z => St w z N B (.slice (some a1) n1 cap1) u6 L y xs) (by kernel_rfl) ?_
          change wpAnyH _ _ _ _ _ _ _ _ wb.drew
          replace G := G.drew
          generalize wb.drew = wc at G ⊢
          have LY : Hid (∀ z, St w z N B (.slice (some a1) n1 cap1) u6 L y xs → Loads Try.prog z 25 ⟨B, 0, none⟩ (slV y)) := Lib.hid fun z j => sl_loads j.o yok.dig.len
          refine held_take 0 (.int .i64 1) rfl (by kernel_rfl) (by kernel_rfl) (by kernel_rfl) (fun _ _ _ h => h) (Or.inl ⟨by rfl, fun x j => by go_simp⟩) G (fun K hK => ?_)
          go_simp
          refine hK _ _ ?_
          clear hK K
          refine held_take 1 (.bool false) rfl (by kernel_rfl) (by kernel_rfl) (by kernel_rfl) (fun _ _ _ h => h) (Or.inl ⟨by rfl, fun x j => by go_simp⟩) G (fun K hK => ?_)
          go_simp
          refine hK _ _ ?_
          clear hK K
          refine held_take 2 (.bool false) rfl (by kernel_rfl) (by kernel_rfl) (by kernel_rfl) (fun _ _ _ h => h) (Or.inl ⟨by rfl, fun x j => by go_simp⟩) G (fun K hK => ?_)
          go_simp
          refine hK _ _ ?_
          clear hK K
          refine held_take 3 (undef) rfl (by kernel_rfl) (by kernel_rfl) (by kernel_rfl) (fun _ _ _ h => h) (Or.inr ⟨by rfl, rfl⟩) G (fun K hK => ?_)
          go_simp
          refine hK _ _ ?_
          clear hK K
          refine held_take 4 (undef) rfl (by kernel_rfl) (by kernel_rfl) (by kernel_rfl) (fun _ _ _ h => h) (Or.inr ⟨by rfl, rfl⟩) G (fun K hK => ?_)
          go_simp
          refine hK _ _ ?_
          clear hK K
          refine held_take 5 (undef) rfl (by kernel_rfl) (by kernel_rfl) (by kernel_rfl) (fun _ _ _ h => h) (Or.inr ⟨by rfl, rfl⟩) G (fun K hK => ?_)
          go_simp
          refine hK _ _ ?_
          clear hK K
          refine held_take 6 (undef) rfl (by kernel_rfl) (by kernel_rfl) (by kernel_rfl) (fun _ _ _ h => h) (Or.inr ⟨by rfl, rfl⟩) G (fun K hK => ?_)
          go_simp
          refine hK _ _ ?_
          clear hK K
          refine held_take 7 (undef) rfl (by kernel_rfl) (by kernel_rfl) (by kernel_rfl) (fun _ _ _ h => h) (Or.inr ⟨by rfl, rfl⟩) G (fun K hK => ?_)
          go_simp
          refine hK _ _ ?_
          clear hK K
          refine held_take 8 (undef) rfl (by kernel_rfl) (by kernel_rfl) (by kernel_rfl) (fun _ _ _ h => h) (Or.inr ⟨by rfl, rfl⟩) G (fun K hK => ?_)
          go_simp
          refine hK _ _ ?_
          clear hK K
          refine held_take 9 (undef) rfl (by kernel_rfl) (by kernel_rfl) (by kernel_rfl) (fun _ _ _ h => h) (Or.inr ⟨by rfl, rfl⟩) G (fun K hK => ?_)
          go_simp
          refine hK _ _ ?_
          clear hK K
          refine held_take 10 (undef) rfl (by kernel_rfl) (by kernel_rfl) (by kernel_rfl) (fun _ _ _ h => h) (Or.inr ⟨by rfl, rfl⟩) G (fun K hK => ?_)
          go_simp
          refine hK _ _ ?_
          clear hK K
          refine held_take 11 (undef) rfl (by kernel_rfl) (by kernel_rfl) (by kernel_rfl) (fun _ _ _ h => h) (Or.inr ⟨by rfl, rfl⟩) G (fun K hK => ?_)
          go_simp
          refine hK _ _ ?_
          clear hK K
          refine held_take 12 (undef) rfl (by kernel_rfl) (by kernel_rfl) (by kernel_rfl) (fun _ _ _ h => h) (Or.inr ⟨by rfl, rfl⟩) G (fun K hK => ?_)
          go_simp
          refine hK _ _ ?_
          clear hK K
          refine held_take 13 (.bool false) rfl (by kernel_rfl) (by kernel_rfl) (by kernel_rfl) (fun _ _ _ h => h) (Or.inl ⟨by rfl, fun x j => by go_simp⟩) G (fun K hK => ?_)
          go_simp
          refine hK _ _ ?_
          clear hK K
          refine wpAnyH_done (by kernel_rfl) ?_ _
          have LXX := LX.out _ G
          have bN : N ≤ wc.heap.size := G.hN.2.2
          clear LX LY
          go_upto_region 10 with (first | refine wpl_load LXX rfl rfl rfl ?_ | refine wpl_build (slV_size xok.dig.len) rfl rfl rfl ?_ | (at_builtin; refine wpList_append_own _ rfl _ _ 34 rfl N 25 i0 (.agg #[.int .i64 0, .string ⟨#[]⟩, .string ⟨#[]⟩, .int .u8 0, .int .u8 0, .int .u8 0, .int .u8 0, .int .u8 0, .int .u8 0, .int .u8 0, .int .u8 0, .int .u8 0, .int .u8 0, .int .u8 0, .int .u8 0, .int .u8 0, .int .u8 0, .int .u8 0, .int .u8 0, .int .u8 0, .int .u8 0, .int .u8 0, .int .u8 0, .int .u8 0, .int .u8 0, .int .u8 0, .int .u8 0, .int .u8 0, .int .u8 0, .int .u8 0, .int .u8 0, .int .u8 0, .int .u8 0, .int .u8 0, .int .u8 0, .string ⟨#[]⟩, .int .i64 0, .int .i64 0]) 38 104 Try.underlying34 hi hz0 hz1 hz2 rfl (by decide) _ _ _ rfl (G.own.alloc _) ⟨wc.heap.size, 0, none⟩ 1 1 (slL x) rfl ?c0 ?c1 (slL_one x) ?c3 ?c4 ?c5 ?_))
          case c0 => rw [slL_len xok.dig.len]
          case c1 => exact new_cells wc x
          case c3 => unfold maxLen; omega
          case c4 => omega
          case c5 => simp; omega
          intro v' w4 own4 hgrow _
          have G2 := G.more can own4 hgrow
          clear G LXX own4 hgrow
          go_wp2
          go_roundw
          case rel => exact ⟨k + 1, xs ++ [x], by omega, by rw [CAT.out], by go_num, by rw [List.length_append]; simp; omega, G2⟩
          case measure => simp [intOf]; omega
        · go_wp2_with (refine wpl_load LXX rfl rfl rfl ?_)
          refine (write_no x _ xok can).mono ?_
          rintro e wb ⟨rfl, G1⟩
          replace G := G.below G1
          clear G1 LXX LX
          go_wp2
          go_roundw
          case rel => exact ⟨k + 1, xs, by omega, rfl, by go_num, by omega, G⟩
          case measure => simp [intOf]; omega
    · have l1 : ¬ (k : Int) < (n1 : Int) := by omega
      have hb := bl_strOf (recs_lt G.can)
      have RA := Lib.hid (reads_all G.can)
      have HB2 := Lib.hid hb
      clear hb
      go_wp2_with fail
      refine (all_any _ _ (by omega)).mono ?_
      rintro e w7 ⟨ys, n, v, rfl, hv2, hr, G1⟩
      rw [HB2.out] at hr
      obtain ⟨rfl, rfl⟩ := reads_one RA.out hr
      replace G := G.below G1
      clear hr G1
      have want := owns_sls G.own fun z hz => can_okay (G.can z hz)
      have e39 : (recs xs).length = (strOf (recs xs)).size := by rw [strOf_size]
      rw [e39]
      go_wp2_with fail
      refine (same_any hv2 want (by omega) (by omega)).mono ?_
      rintro e w8 ⟨rfl, G1⟩
      rw [sameB_yes rfl]
      have F := G.bel.trans (G1.mono G.bel.size)
      go_wp2
      go_ret
      exact ⟨by simp, F⟩
set_option maxHeartbeats 1000000 in
theorem back_many {v0 : Value} (L : List Sp) (y : Sp) {w : World} (hv : SlsAt w v0 L) (hl0 : L.length ≤ 9223372036854775807) (hl : ¬ L.length ≤ 40) :
    Calls Try.prog 5 #[v0, .agg (slV y)] w fun e w' => e = .returned (.bool true) ∧ Below w.heap.size w w' := by
  have F : Below w.heap.size w (w.alloc (.cells (slV y) 25)) := (Below.refl _ _).alloc (Nat.le_refl _) _
  obtain ⟨b1, cap1, rfl, hcap, _⟩ := hv.is
  clear hv
  have l40 : decide ((40 : Int) < (L.length : Int)) = true := by simp; omega
  have l41 : (40 : Int) < (L.length : Int) := by omega
  go_enter Try.func5, Try.ntmps5
  go_upto_region 1 with (fail)
  generalize w.alloc (.cells (slV y) 25) = w1 at F ⊢
  go_wp2_with fail
  refine (awake_any _).mono ?_
  rintro e w2 ⟨rfl, G1⟩
  replace F := F.trans (G1.mono F.size)
  clear G1
  go_wp2
  go_ret
  exact ⟨rfl, F⟩
set_option maxHeartbeats 1000000 in
theorem back_great {v0 : Value} (L : List Sp) (y : Sp) {w : World} (hv : SlsAt w v0 L) (yok : Okay y) (hl : L.length ≤ 40) (hg : greatB y = true) :
    Calls Try.prog 5 #[v0, .agg (slV y)] w fun e w' => e = .returned (.bool true) ∧ Below w.heap.size w w' := by
  have X := At.new w 25 (slV y)
  have F : Below w.heap.size w (w.alloc (.cells (slV y) 25)) := (Below.refl _ _).alloc (Nat.le_refl _) _
  obtain ⟨b1, cap1, rfl, hcap, _⟩ := hv.is
  clear hv
  have l40 : decide ((40 : Int) < (L.length : Int)) = false := by simp; omega
  go_enter Try.func5, Try.ntmps5
  go_upto_region 1 with (fail)
  generalize w.alloc (.cells (slV y) 25) = w1 at F X ⊢
  obtain ⟨B, hB⟩ : ∃ B, B = w.heap.size := ⟨_, rfl⟩
  rw [← hB] at X ⊢
  clear hB
  go_wp2_with fail
  refine (awake_any _).mono ?_
  rintro e w2 ⟨rfl, G1⟩
  replace F := F.trans (G1.mono F.size)
  replace X := X.old G1
  clear G1
  have LX := sl_loads X yok.dig.len
  go_wp2_with (refine wpl_load_in LX rfl rfl rfl ?_)
  refine (great_any y _ yok).mono ?_
  rintro e w3 ⟨rfl, G1⟩
  rw [hg]
  replace F := F.trans (G1.mono F.size)
  clear G1 LX X
  go_wp2
  go_ret
  exact ⟨rfl, F⟩
theorem back_walk {v0 : Value} (L : List Sp) (y : Sp) {w : World} (hv : SlsAt w v0 L) (hl0 : L.length ≤ 9223372036854775807) (yok : Okay y) (w' : World) :
    Calls Try.prog 5 #[v0, .agg (slV y)] w fun e w' => e = .returned (.bool true) ∧ Below w.heap.size w w' := by
  by_cases hl : L.length ≤ 40
  · cases hg : greatB y
    · by_cases hy : Can y
      · exact back_yes L y hv yok hl hg hy
      · exact back_no L y hv yok hl hg hy
    · exact back_great L y hv yok hl hg
  · exact back_many L y hv hl0 hl
end Go.Proofs.Ytahalddoloppmaa.Sl
