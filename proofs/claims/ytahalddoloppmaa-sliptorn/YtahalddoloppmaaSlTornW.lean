/-
  SlipTorn, walked: what it holds in memory, what holds at each round.
-/
import Derived.Test.YtahalddoloppmaaSlBackW
import Derived.Test.YtahalddoloppmaaSlTorn
namespace Go.Proofs.Ytahalddoloppmaa.Sl
open Go.RowKit Go.PlainAid Go.Proofs.Ytahalddoloppmaa.Cr
set_option linter.unusedVariables false
set_option linter.unusedSimpArgs false

theorem infoI : (Try.prog.info? 3).map (fun i => (i.zero, i.size, i.bytes)) = some (some (.int .i64 0), 1, 8) := by kernel_rfl
/-- what the law holds: the slips of the row, the four bytes, where records end, the row that is wanted -/
structure Sq (w0 w : World) (N B : Nat) (v0 vE vW : Value) (L : List Sp) (d : List Nat) (es : List Value) (xs : List Sp) : Prop where
  l : SlsAt w v0 L
  o : At w B 39 (dV d).toArray
  ends : w.ownsRow N 3 1 vE es.length es
  own : w.ownsRow N 25 38 vW xs.length (slsL xs)
  bel : Below w0.heap.size w0 w
  hN : w0.heap.size ≤ N ∧ B < N ∧ N ≤ w.heap.size
  can : ∀ x ∈ xs, Can x
  lb : ∃ M, M ≤ N ∧ ∀ a n c, v0 = .slice (some a) n c → L ≠ [] → a.block < M
section
variable {w0 w w' : World} {N B : Nat} {v0 vE vW v' : Value} {L : List Sp} {d : List Nat} {es : List Value} {xs : List Sp}
theorem Sq.below (h : Sq w0 w N B v0 vE vW L d es xs) (hb : Below w.heap.size w w') : Sq w0 w' N B v0 vE vW L d es xs :=
  ⟨h.l.below hb, h.o.old hb, owns_below h.ends hb, owns_below h.own hb, h.bel.trans (hb.mono h.bel.size), ⟨h.hN.1, h.hN.2.1, Nat.le_trans h.hN.2.2 hb.size⟩, h.can, h.lb⟩
theorem own_apart {e1 e2 s1 s2 n1 n2 B1 B2 : Nat} {v1 v2 : Value} {x1 x2 : List Value} (h1 : w.ownsRow B1 e1 s1 v1 n1 x1) (h2 : w.ownsRow B2 e2 s2 v2 n2 x2) (he : e1 ≠ e2) : v1.ownBlock = none ∨ v1.ownBlock ≠ v2.ownBlock := by
  rcases h1.2 with ⟨rfl, _⟩ | ⟨g, cap, cur, rfl, _, hg, _⟩
  · left; rfl
  · right
    rcases h2.2 with ⟨rfl, _⟩ | ⟨g', cap', cur', rfl, _, hg', _⟩
    · simp [Value.ownBlock]
    · simp only [Value.ownBlock, ne_eq, Option.some.injEq]
      intro e
      subst e
      rw [hg] at hg'
      simp only [Option.some.injEq, Obj.cells.injEq] at hg'
      exact he hg'.2.1
theorem Sq.moreE (h : Sq w0 w N B v0 vE vW L d es xs) {c : Value} (own : w'.ownsRow N 3 1 v' (es.length + 1) (es ++ [c])) (hg : (w.alloc (.cells #[c] 3)).grownBy w' vE.ownBlock) : Sq w0 w' N B v0 v' vW L d (es ++ [c]) xs := by
  have hlt : ∀ k, vE.ownBlock = some k → N ≤ k := fun k hk => (h.ends.lt k hk).1
  have h2 := h.below ((Below.refl w.heap.size w).alloc (Nat.le_refl _) (.cells #[c] 3))
  obtain ⟨M, hM, hM2⟩ := h.lb
  refine ⟨sls_grown h2.l hg fun k hk a n c e hne => ?_, h2.o.same (hg.block B h2.o.lt fun e => ?_), ?_, h2.own.kept hg (own_apart h2.own h2.ends (by decide)), h2.bel.grown hg h2.bel.size (fun k hk => Nat.le_trans h.hN.1 (hlt k hk)), ⟨h.hN.1, h.hN.2.1, Nat.le_trans h2.hN.2.2 hg.size⟩, h.can, h.lb⟩
  · have h3 := hM2 a n c e hne
    have h4 := hlt k hk
    omega
  · have := hlt B e.symm
    have := h.hN.2.1
    omega
  · rw [List.length_append]
    exact own
theorem Sq.moreW (h : Sq w0 w N B v0 vE vW L d es xs) {x : Sp} (hx : Can x) (own : w'.ownsRow N 25 38 v' (xs.length + 1) (slsL xs ++ slL x)) (hg : (w.alloc (.cells (slV x) 25)).grownBy w' vW.ownBlock) : Sq w0 w' N B v0 vE v' L d es (xs ++ [x]) := by
  have hlt : ∀ k, vW.ownBlock = some k → N ≤ k := fun k hk => (h.own.lt k hk).1
  have h2 := h.below ((Below.refl w.heap.size w).alloc (Nat.le_refl _) (.cells (slV x) 25))
  obtain ⟨M, hM, hM2⟩ := h.lb
  refine ⟨sls_grown h2.l hg fun k hk a n c e hne => ?_, h2.o.same (hg.block B h2.o.lt fun e => ?_), h2.ends.kept hg (own_apart h2.ends h2.own (by decide)), ?_, h2.bel.grown hg h2.bel.size (fun k hk => Nat.le_trans h.hN.1 (hlt k hk)), ⟨h.hN.1, h.hN.2.1, Nat.le_trans h2.hN.2.2 hg.size⟩, ?_, h.lb⟩
  · have h3 := hM2 a n c e hne
    have h4 := hlt k hk
    omega
  · have := hlt B e.symm
    have := h.hN.2.1
    omega
  · rw [slsL_snoc, List.length_append]
    exact own
  · intro z hz
    rcases List.mem_append.1 hz with c | c
    · exact h.can z c
    · simp at c; subst c; exact hx
theorem Sq.endCell (h : Sq w0 w N B v0 vE vW L d (endsL xs) xs) {g n cap : Nat} (e : vE = .slice (some ⟨g, 0, none⟩) n cap) {j : Nat} (hj : j ≤ xs.length) : w.cell? ⟨g, j, none⟩ = some (.int .i64 (En xs j : Int)) := by
  have := h.ends.cells (g := g) (by rw [e]; rfl) j _ (endsL_get xs hj)
  rw [add_at, Nat.zero_add] at this
  exact this
end
theorem row_one (w : World) (v : Value) (T : Nat) : (w.alloc (.cells #[v] T)).ownsRow w.heap.size T 1 (.slice (some ⟨w.heap.size, 0, none⟩) 1 1) 1 [v] :=
  ⟨rfl, .inr ⟨w.heap.size, 1, #[v], rfl, Nat.le_refl _, heap_alloc_new w _, Nat.le_refl _, by unfold maxLen; decide, rfl, rfl⟩⟩
theorem cut_num (x : Int) (n : Nat) (h : n ≤ 1000000) : ∃ k : Nat, wrap64 ((IntKind.u64.wrap x).tmod ((n : Int) + 1)) = (k : Int) ∧ k ≤ n := by
  have h0 : 0 ≤ IntKind.u64.wrap x := wrap_u64_nonneg x
  rw [Int.tmod_eq_emod_of_nonneg h0]
  have h1 := Int.emod_nonneg (IntKind.u64.wrap x) (show ((n : Int) + 1) ≠ 0 by omega)
  have h2 := Int.emod_lt_of_pos (IntKind.u64.wrap x) (show 0 < (n : Int) + 1 by omega)
  refine ⟨(IntKind.u64.wrap x % ((n : Int) + 1)).toNat, ?_, by omega⟩
  generalize IntKind.u64.wrap x % ((n : Int) + 1) = q at h1 h2
  unfold wrap64
  omega
theorem eq_four {d : List Nat} (hl : d.length = 4) (hd : ∀ b ∈ d, b < 256) (w : World) : (Op.equalIn 10000 39 (.agg (dV d).toArray) (.agg #[.int .u8 0, .int .u8 0, .int .u8 0, .int .u8 0])).run Try.prog w = .ok (decide (d = [0, 0, 0, 0])) w := by
  have e : (#[.int .u8 0, .int .u8 0, .int .u8 0, .int .u8 0] : Array Value) = (dV [0, 0, 0, 0]).toArray := rfl
  rw [e, dV_cells hd, dV_cells (d := [0, 0, 0, 0]) (by simp)]
  have := run_equalIn_bytes (P := Try.prog) w 9998 39 5 4 Try.underlying39 Try.underlying5 (fun w => size_of (by kernel_rfl) w) (d.map UInt8.ofNat) ([0, 0, 0, 0].map UInt8.ofNat) (by simp [hl]) (by simp)
  rw [this]
  congr 1
  match d, hl with
  | [a, b, c, e], _ =>
    have h0 := hd a (by simp); have h1 := hd b (by simp); have h2 := hd c (by simp); have h3 := hd e (by simp)
    have k : ∀ z : Nat, z < 256 → (UInt8.ofNat z = 0 ↔ z = 0) := fun z hz => by
      rw [← UInt8.toNat_inj]
      simp [Nat.mod_eq_of_lt hz]
    rw [Bool.eq_iff_iff]
    simp [k a h0, k b h1, k c h2, k e h3]
set_option maxRecDepth 100000 in
set_option maxHeartbeats 8000000 in
theorem torn_main {v0 : Value} (L : List Sp) (ct at' : Int) (d : List Nat) {w : World} (hv : SlsAt w v0 L) (hl : L.length ≤ 20) (hd : d.length = 4) (hd2 : ∀ b ∈ d, b < 256) :
    Calls Try.prog 6 #[v0, .int .i64 ct, .int .i64 at', .agg (dV d).toArray] w fun e w' => e = .returned (.bool true) ∧ Below w.heap.size w w' := by
  obtain ⟨i0, hi, hz0, hz1, hz2⟩ := info_parts infoSl
  obtain ⟨j0, ji, jz0, jz1, jz2⟩ := info_parts infoI
  have LB : Hid (∀ a n c, v0 = .slice (some a) n c → L ≠ [] → a.block < w.heap.size) := Lib.hid (by
    intro a n c e hne
    obtain ⟨base, cap, e2, _, hc⟩ := hv.is
    rw [e2] at e
    injection e with e3 _ _
    obtain ⟨x, hx⟩ : ∃ x, L[0]? = some x := by
      cases L with
      | nil => exact absurd rfl hne
      | cons x L => exact ⟨x, rfl⟩
    obtain ⟨a', e4, h4, _⟩ := hc 0 x hx
    rw [e3] at e4
    injection e4 with e4
    rw [e4]
    exact h4)
  have OKL := Lib.hid hv.ok
  have HD := Lib.hid hd
  have HD2 := Lib.hid hd2
  clear hd hd2
  have X := At.new w 39 (dV d).toArray
  have F : Below w.heap.size w (w.alloc (.cells (dV d).toArray 39)) := (Below.refl _ _).alloc (Nat.le_refl _) _
  replace hv := hv.below F
  obtain ⟨b1, cap1, rfl, hcap, _⟩ := hv.is
  obtain ⟨n1, hn1⟩ : ∃ n1, n1 = L.length := ⟨_, rfl⟩
  rw [← hn1] at hv hl LB hcap ⊢
  have HN1 := Lib.hid hn1
  clear hn1
  go_enter Try.func6, Try.ntmps6
  go_upto_region 1 with (fail)
  obtain ⟨B, hB⟩ : ∃ B, B = w.heap.size := ⟨_, rfl⟩
  rw [← hB] at X ⊢
  have HB := Lib.hid hB
  clear hB
  generalize w.alloc (.cells (dV d).toArray 39) = w1 at X F hv ⊢
  go_wp2_with fail
  refine (awake_any _).mono ?_
  rintro e w2 ⟨rfl, G1⟩
  replace X := X.old G1
  replace hv := hv.below G1
  replace F := F.trans (G1.mono F.size)
  clear G1
  have l20 : decide ((20 : Int) < (n1 : Int)) = false := by simp; omega
  have l21 : ¬ (20 : Int) < (n1 : Int) := by omega
  go_upto_region 7 with (fail)
  have E0 := row_one w2 (.int .i64 0) 3
  have W0 := World.ownsRow_made (base := w2.heap.size) (e := 25) (size := 38) (w2.alloc (.cells #[.int .i64 0] 3)) #[] 0 (by simp) (Nat.zero_le _) rfl
  have NF := F.size
  have G : Sq w ((w2.alloc (.cells #[.int .i64 0] 3)).alloc (.cells #[] 25)) w2.heap.size B (.slice b1 n1 cap1) (.slice (some ⟨w2.heap.size, 0, none⟩) 1 1) (.slice (some ⟨w2.heap.size + 1, 0, none⟩) 0 0) L d (endsL []) [] :=
    ⟨(hv.below ((Below.refl _ _).alloc (Nat.le_refl _) _)).below ((Below.refl _ _).alloc (Nat.le_refl _) _), (X.alloc _).alloc _, E0.alloc _, by rw [World.size_alloc] at W0; exact W0, (F.alloc F.size _).alloc (by simp; omega) _, ⟨NF, X.lt, by simp; omega⟩, by simp, w.heap.size, NF, LB.out⟩
  clear E0 W0 hv X F LB
  go_upto_region 8 with (fail)
  generalize w2.heap.size + 1 = N1 at G ⊢
  generalize (w2.alloc (.cells #[.int .i64 0] 3)).alloc (.cells #[] 25) = w4 at G ⊢
  generalize w2.heap.size = N at G NF ⊢
  go_wp2
  go_loopw [9, 10, 11, 12] (fun a vE vW i wr => ∃ (k : Nat) (xs : List Sp), k ≤ n1 ∧ a = .string (strOf (recs xs)) ∧ i = .int .i64 k ∧ xs.length ≤ k ∧ Sq w wr N B (.slice b1 n1 cap1) vE vW L d (endsL xs) xs) (fun _ _ _ i _ => n1 - (intOf i).toNat)
  case atStart => exact ⟨0, [], Nat.zero_le _, rfl, rfl, Nat.le_refl _, G⟩
  case round =>
    clear G
    obtain ⟨k, xs, hk, rfl, rfl, hxk, G⟩ := hrel
    have hrl := recs_len_le G.can
    have hsz : (strOf (recs xs)).size ≤ 20000 := by rw [strOf_size]; omega
    by_cases hlt : k < n1
    · as_aux_lemma =>
      obtain ⟨x, hx⟩ : ∃ x, L[k]? = some x := ⟨L[k]'(by have := HN1.out; omega), List.getElem?_eq_getElem _⟩
      have xok := OKL.out x (List.mem_of_getElem? hx)
      obtain ⟨a1, rfl, _, LXX⟩ := G.l.loads hx
      have HX := Lib.hid hx
      clear hx
      have l1 : (k : Int) < (n1 : Int) := by omega
      go_wp2_with (refine wpl_load LXX rfl rfl rfl ?_)
      refine (great_any x _ xok).mono ?_
      rintro e wa ⟨rfl, G1⟩
      replace G := G.below G1
      clear G1 LXX
      cases hgx : greatB x with
      | true =>
        clear hgx
        go_wp2
        go_ret
        exact ⟨rfl, G.bel⟩
      | false =>
        clear hgx
        have LOAD : Hid (∀ z vE vW es xs, Sq w z N B (.slice (some a1) n1 cap1) vE vW L d es xs → Loads Try.prog z 25 (a1.add (k * 38)) (slV x)) := Lib.hid fun z vE vW es xs j => by
          obtain ⟨a, e, _, h⟩ := j.l.loads HX.out
          injection e with e
          subst e
          exact h
        have LXX := LOAD.out _ _ _ _ _ G
        by_cases can : Can x
        · obtain ⟨sx, hsx⟩ : ∃ sx, sx = strOf (recL (bodyL x)) := ⟨_, rfl⟩
          have zsx : sx.size ≤ 414 := by rw [hsx, strOf_size, rec_len]; have := (body_len can).2; omega
          go_wp2_with (refine wpl_load LXX rfl rfl rfl ?_)
          refine (write_yes x _ xok can).mono ?_
          rintro e wb ⟨rfl, G1⟩
          rw [← hsx]
          replace G := G.below G1
          clear G1 LXX
          obtain ⟨al, hal⟩ : ∃ al, strOf (recs xs) ++ sx = al := ⟨_, rfl⟩
          have AL : Hid (al = strOf (recs (xs ++ [x]))) := Lib.hid (by rw [← hal, hsx, recs_append, recs_one, strOf_append])
          have AZ : Hid (al.size = (recs (xs ++ [x])).length) := Lib.hid (by rw [AL.out, strOf_size])
          have zal : al.size ≤ 30000 := by rw [← hal, ByteArray.size_append]; omega
          clear hsx
          have bN : N ≤ wb.heap.size := G.hN.2.2
          have hel := endsL_len xs
          have HEL := Lib.hid hel
          clear hel
          go_upto_region 17 with (at_builtin; refine wpList_append_own _ rfl _ _ 40 rfl N 3 j0 (.int .i64 0) 1 8 Try.underlying40 ji jz0 jz1 jz2 rfl (by decide) _ _ _ rfl (G.ends.alloc _) ⟨wb.heap.size, 0, none⟩ 1 1 [.int .i64 (al.size : Int)] rfl rfl ?c1 (by simp [Value.oneCell']) ?c3 ?c4 ?c5 ?_)
          case c1 =>
            intro j u hj
            match j, hj with
            | 0, hj => simp at hj; subst hj; simp [Addr.add]
          case c3 => have := HEL.out; unfold maxLen; omega
          case c4 => have := HEL.out; omega
          case c5 => simp; omega
          intro vE2 wc own4 hgrow _
          have G2 := G.moreE own4 hgrow
          have e9 : endsL xs ++ [.int .i64 (al.size : Int)] = endsL (xs ++ [x]) := by rw [endsL_snoc, AZ.out]
          rw [e9] at G2
          clear G own4 hgrow e9 bN
          have LXX := LOAD.out _ _ _ _ _ G2
          have bN : N ≤ wc.heap.size := G2.hN.2.2
          go_upto_region 10 with (first | refine wpl_load LXX rfl rfl rfl ?_ | refine wpl_build (slV_size xok.dig.len) rfl rfl rfl ?_ | (at_builtin; refine wpList_append_own _ rfl _ _ 34 rfl N 25 i0 (.agg #[.int .i64 0, .string ⟨#[]⟩, .string ⟨#[]⟩, .int .u8 0, .int .u8 0, .int .u8 0, .int .u8 0, .int .u8 0, .int .u8 0, .int .u8 0, .int .u8 0, .int .u8 0, .int .u8 0, .int .u8 0, .int .u8 0, .int .u8 0, .int .u8 0, .int .u8 0, .int .u8 0, .int .u8 0, .int .u8 0, .int .u8 0, .int .u8 0, .int .u8 0, .int .u8 0, .int .u8 0, .int .u8 0, .int .u8 0, .int .u8 0, .int .u8 0, .int .u8 0, .int .u8 0, .int .u8 0, .int .u8 0, .int .u8 0, .string ⟨#[]⟩, .int .i64 0, .int .i64 0]) 38 104 Try.underlying34 hi hz0 hz1 hz2 rfl (by decide) _ _ _ rfl (G2.own.alloc _) ⟨wc.heap.size, 0, none⟩ 1 1 (slL x) rfl ?c0 ?c1 (slL_one x) ?c3 ?c4 ?c5 ?_))
          case c0 => rw [slL_len xok.dig.len]
          case c1 => exact new_cells wc x
          case c3 => unfold maxLen; omega
          case c4 => omega
          case c5 => simp; omega
          intro v' wd own4 hgrow _
          have G3 := G2.moreW can own4 hgrow
          clear G2 LXX own4 hgrow hal
          go_wp2
          go_roundw
          case rel => exact ⟨k + 1, xs ++ [x], by omega, by rw [AL.out], by go_num, by rw [List.length_append]; simp; omega, G3⟩
          case measure => simp [intOf]; omega
        · go_wp2_with (refine wpl_load LXX rfl rfl rfl ?_)
          refine (write_no x _ xok can).mono ?_
          rintro e wb ⟨rfl, G1⟩
          replace G := G.below G1
          clear G1 LXX LOAD
          go_wp2
          go_roundw
          case rel => exact ⟨k + 1, xs, by omega, rfl, by go_num, by omega, G⟩
          case measure => simp [intOf]; omega
    · have l1 : ¬ (k : Int) < (n1 : Int) := by omega
      by_cases hxe : xs = []
      · subst hxe
        obtain ⟨wb, wcap, rfl⟩ : ∃ b c, u11 = .slice b 0 c := by
          rcases G.own.2 with ⟨e, h0⟩ | ⟨g, cap, cur, e, _⟩
          · exact ⟨none, 0, e⟩
          · exact ⟨_, _, e⟩
        go_wp2
        go_ret
        exact ⟨rfl, G.bel⟩
      · have hm : 1 ≤ xs.length := by
          cases xs with
          | nil => exact absurd rfl hxe
          | cons a l => simp
        have m0 : ((xs.length : Int) == 0) = false := by rw [beq_eq_false_iff_ne]; omega
        have m1 : ¬ (xs.length : Int) = 0 := by omega
        obtain ⟨wg, wcap, hW, hwc⟩ : ∃ g c, u11 = .slice (some ⟨g, 0, none⟩) xs.length c ∧ xs.length ≤ c := by
          rcases G.own.2 with ⟨e, h0⟩ | ⟨g, cap, cur, e, _, _, hc, _⟩
          · omega
          · exact ⟨g, cap, e, hc⟩
        subst hW
        obtain ⟨eg, ecap, hE⟩ : ∃ g cap, u10 = .slice (some ⟨g, 0, none⟩) (xs.length + 1) cap := by
          rcases G.ends.2 with ⟨e, h0⟩ | ⟨g, cap, cur, e, _⟩
          · rw [endsL_len] at h0; omega
          · rw [endsL_len] at e; exact ⟨g, cap, e⟩
        subst hE
        obtain ⟨al, hal⟩ : ∃ al, strOf (recs xs) = al := ⟨_, rfl⟩
        have HAB : Hid (bl al = recs xs) := Lib.hid (by rw [← hal]; exact bl_strOf (recs_lt G.can))
        have HAZ : Hid (al.size = (recs xs).length) := Lib.hid (bl_size HAB.out)
        rw [hal] at hsz ⊢
        clear hal
        obtain ⟨kk, hkk, hkl⟩ := cut_num ct al.size (by omega)
        have HKK := Lib.hid hkk
        clear hkk
        obtain ⟨jw, hj1, hj2, hj3⟩ := whole_ex (En xs) kk (by rw [En_zero]; omega) xs.length
        have HJ2 := Lib.hid hj2
        have HJ3 := Lib.hid hj3
        clear hj2 hj3 hrl
        go_upto_region 21 with (fail)
        rw [HKK.out]
        clear HKK
        generalize wr = wo at G ⊢
        go_wp2
        go_loopw [16] (fun i wr => ∃ i0 : Nat, i0 ≤ jw ∧ i = .int .i64 i0 ∧ wo = wr) (fun i _ => jw - (intOf i).toNat)
        case atStart => exact ⟨0, Nat.zero_le _, rfl, rfl⟩
        case round =>
          obtain ⟨i0, hi0, rfl, rfl⟩ := hrel
          by_cases c : i0 < jw
          · have d1 : decide ((i0 : Int) < (xs.length : Int)) = true := by simp; omega
            have d2 : (i0 : Int) < (xs.length : Int) := by omega
            have ce := G.endCell rfl (j := i0 + 1) (by omega)
            have le := En_mono xs (show i0 + 1 ≤ jw by omega)
            have d3 : (En xs (i0 + 1) : Int) ≤ (kk : Int) := by have := HJ2.out; omega
            have tn : ((i0 : Int) + 1).toNat = i0 + 1 := by omega
            generalize En xs (i0 + 1) = e1 at ce d3
            clear le
            go_wp2
            go_roundw
            case rel => exact ⟨i0 + 1, by omega, by go_num, trivial⟩
            case measure => simp [intOf]; omega
          · obtain rfl : i0 = jw := by omega
            by_cases cf : i0 = xs.length
            · as_aux_lemma =>
              have d1 : decide ((i0 : Int) < (xs.length : Int)) = false := by simp; omega
              have d2 : ¬ (i0 : Int) < (xs.length : Int) := by omega
              have CF := Lib.hid cf
              clear cf
              have RC := Lib.hid (reads_cut G.can hj1 HJ2.out HJ3.out (by have := HAZ.out; omega))
              have hex : bl (al.extract 0 kk) = (recs xs).take kk := by rw [bl_extract, List.drop_zero, Nat.sub_zero, HAB.out]
              have HEX := Lib.hid hex
              clear hex
              have lk : (kk : Int) ≤ (al.size : Int) := by omega
              have hsx2 : (al.extract 0 kk).size ≤ 1073741824 := by rw [ByteArray.size_extract]; omega
              go_wp2_with fail
              refine (all_any (al.extract 0 kk) _ hsx2).mono ?_
              rintro e w7 ⟨ys, n, v, rfl, hv2, hr, G1⟩
              rw [HEX.out] at hr
              obtain ⟨hys, hnn⟩ := reads_one RC.out hr
              replace G := G.below G1
              have want := owns_sls G.own fun z hz => can_okay (G.can z hz)
              have want2 := want.take hj1
              have cj := G.endCell rfl hj1
              rw [hys] at want2
              rw [hnn] at cj
              have hyl : ys.length = i0 := by rw [← hys, List.length_take]; omega
              clear hr G1 RC HEX hsx2 hys hnn
              obtain ⟨lb, lc, hvv, _, _⟩ := hv2.is
              rw [hyl] at hvv
              subst hvv
              have HYL := Lib.hid hyl
              clear hyl
              have lw : (i0 : Int) ≤ (wcap : Int) := by omega
              have CJ := Lib.hid cj
              clear cj
              go_wp2_with fail
              refine (same_any hv2 want2 (by rw [HYL.out]; omega) (by rw [HYL.out]; omega)).mono ?_
              rintro e w8 ⟨rfl, G1⟩
              rw [sameB_yes rfl]
              replace G := G.below G1
              replace want := want.below G1
              have cj : w8.cell? ⟨eg, i0, none⟩ = some (.int .i64 (n : Int)) := by
                rw [World.cell?_of_block (w := w7) (G1.block _ (World.block_lt_of_cell? w7 _ CJ.out))]
                exact CJ.out
              clear G1 hv2 want2 CJ
              have LD := G.o.loads (P := Try.prog) (ty := 39) (by kernel_rfl) (by rw [show (dV d).toArray.size = 4 by simp [dV_len, HD.out]]; kernel_rfl)
              have q4 := eq_four HD.out HD2.out
              by_cases dz : d = [0, 0, 0, 0]
              · rw [decide_eq_true dz] at q4
                clear dz
                go_wp2_with (refine wpl_load LD rfl rfl rfl ?_)
                go_ret
                exact ⟨rfl, G.bel⟩
              · rw [decide_eq_false dz] at q4
                have B0 := Lib.hid (four_ne HD.out dz)
                clear dz
                go_upto_region 29 with (refine wpl_load LD rfl rfl rfl ?_)
                clear LD q4 cj
                obtain ⟨zs, x, hzx⟩ : ∃ zs x, xs = zs ++ [x] := by
                  rcases List.eq_nil_or_concat xs with h | ⟨zs, x, h⟩
                  · exact absurd h hxe
                  · exact ⟨zs, x, by rw [h]; simp⟩
                have hzl : xs.length = zs.length + 1 := by rw [hzx]; simp
                have hcan := G.can
                rw [hzx] at hcan
                have canz : ∀ z ∈ zs, Can z := fun z hz => hcan z (by simp [hz])
                have canx : Can x := hcan x (by simp)
                have hbody := body_len canx
                have hEp : En xs zs.length = (recs zs).length := by unfold En; rw [hzx, List.take_left' rfl]
                have hal2 : al.size = (recs zs).length + 6 + (bodyL x).length := by rw [HAZ.out, hzx, recs_append, recs_one, List.length_append, rec_len]; omega
                obtain ⟨q, hq⟩ : ∃ q, (bodyL x).length = q + 4 := ⟨(bodyL x).length - 4, by omega⟩
                obtain ⟨tt, htt, htl⟩ := cut_num at' q (by omega)
                have RB4 := Lib.hid (reads_burst canz canx (t := tt) (by omega) B0.out (four_lt HD.out HD2.out))
                rw [← hzx] at RB4
                have wantz : SlsAt w8 (.slice (some ⟨wg, 0, none⟩) zs.length wcap) zs := by
                  have h2 := want.take (m := zs.length) (by omega)
                  have e2 : xs.take zs.length = zs := by rw [hzx]; exact List.take_left' rfl
                  rw [e2] at h2
                  exact h2
                have ce := G.endCell rfl (j := zs.length) (by omega)
                rw [hEp] at ce
                have HAL2 := Lib.hid hal2
                have HQ := Lib.hid hq
                have HTT := Lib.hid htt
                have HZL := Lib.hid hzl
                have HZX := Lib.hid hzx
                clear hEp hal2 hq htt hcan canz canx hbody want hzl hzx
                obtain ⟨fr, hfr⟩ : ∃ fr, (recs zs).length = fr := ⟨_, rfl⟩
                obtain ⟨pz, hpz⟩ : ∃ pz, zs.length = pz := ⟨_, rfl⟩
                rw [hfr] at ce HAL2 RB4
                rw [hpz] at ce HZL wantz
                have HPZ := Lib.hid hpz
                clear hfr hpz
                have i1 : (xs.length : Int) + 1 - 2 = (pz : Int) := by have := HZL.out; omega
                have i2 : (xs.length : Int) - 1 = (pz : Int) := by have := HZL.out; omega
                have i3 : (pz : Int) < (xs.length : Int) + 1 := by have := HZL.out; omega
                have i4 : (0 : Int) ≤ (pz : Int) := by omega
                have i5 : (al.size : Int) - ((fr : Int) + 6) - 3 = (q : Int) + 1 := by have := HAL2.out; have := HQ.out; omega
                have zfr : fr ≤ 20000 := by have := HAL2.out; omega
                have zq : q ≤ 20000 := by have := HAL2.out; have := HQ.out; omega
                obtain ⟨cap3, X3, CV, RB, BX, SX⟩ := conv_row w8 al
                rw [HAB.out] at RB
                go_upto_region 32 with (fail)
                rw [HTT.out]
                obtain ⟨pp, hpp⟩ : ∃ pp : Nat, pp = fr + 6 + tt := ⟨_, rfl⟩
                rw [show wrap64 ((fr : Int) + 6 + (tt : Int)) = (pp : Int) by unfold wrap64; omega]
                rw [← hpp] at RB4
                have hpl : pp + 4 ≤ al.size := by have := HAL2.out; have := HQ.out; omega
                have HPP := Lib.hid hpp
                clear hpp HTT CV i5
                obtain ⟨V, hV⟩ : ∃ V, V = w8.heap.size := ⟨_, rfl⟩
                rw [← hV] at RB ⊢
                have hVX : V < X3.heap.size := by rw [hV]; exact SX
                have HV := Lib.hid hV
                clear hV SX
                have hbN : Hid (∀ t, t < 4 → d[t]? = some (four d / 256 ^ t % 256)) := Lib.hid fun t ht => four_at HD.out HD2.out ht
                generalize four d = fB at RB4 hbN B0
                have hrx : (recs xs).length = al.size := HAZ.out.symm
                have HRX := Lib.hid hrx
                clear hrx
                have RLT := Lib.hid (recs_lt G.can)
                generalize recs xs = rl at RB RB4 HAB HRX RLT HAZ
                go_wp2
                go_loopw [22] (fun i wr => ∃ t : Nat, t ≤ 4 ∧ i = .int .i64 t ∧ RowB wr V (burL rl pp fB t) ∧ Below w8.heap.size w8 wr ∧ V < wr.heap.size) (fun i _ => 4 - (intOf i).toNat)
                case atStart => exact ⟨0, by decide, rfl, by rw [burL_zero]; exact RB, BX, hVX⟩
                case round =>
                  clear RB BX hVX
                  obtain ⟨t, ht, rfl, RB, BX, hVX⟩ := hrel
                  by_cases h4 : t < 4
                  · have f1 : (t : Int) < 4 := by omega
                    have hin' : pp + t < rl.length := by rw [HRX.out]; omega
                    obtain ⟨c1, c2⟩ := RB.cell (pp + t) _ (burL_at rl pp fB t hin')
                    have hlb := RLT.out _ (List.getElem_mem hin')
                    have SU := Lib.hid (burL_succ rl pp fB t hin')
                    have W1 := Lib.hid (fun v => RB.set (pp + t) v (by rw [burL_len]; exact hin'))
                    generalize rl[pp + t] = y at c1 hlb SU
                    have hb0 := hbN.out t h4
                    have c3 : wr.cell? ⟨B, t, none⟩ = some (.int .u8 ((fB / 256 ^ t % 256 : Nat) : Int)) := by
                      rw [(G.o.old BX).cell]
                      simp [dV, hb0]
                    have g2 : bits .xor .u8 (y : Int) ((fB / 256 ^ t % 256 : Nat) : Int) = ((y ^^^ (fB / 256 ^ t % 256) : Nat) : Int) := u8_xor_nat _ _ hlb (Nat.mod_lt _ (by decide))
                    have hm8 : fB / 256 ^ t % 256 < 256 := Nat.mod_lt _ (by decide)
                    generalize fB / 256 ^ t % 256 = bb at c3 g2 SU hm8
                    have g3 : ((pp : Int) + (t : Int)).toNat = pp + t := by omega
                    have g4 : (pp : Int) + (t : Int) < (al.size : Int) := by omega
                    have g5 : (0 : Int) ≤ (pp : Int) + (t : Int) := by omega
                    have B2 : Below w8.heap.size w8 ((wr.setCell ⟨V, pp + t, none⟩ (.int .u8 ((y ^^^ bb : Nat) : Int))).drew) := (BX.setCell (by have := HV.out; simp; omega) _).drew
                    have V2 : V < (wr.setCell ⟨V, pp + t, none⟩ (.int .u8 ((y ^^^ bb : Nat) : Int))).drew.heap.size := by simpa [World.setCell] using hVX
                    have R2 : RowB (wr.setCell ⟨V, pp + t, none⟩ (.int .u8 ((y ^^^ bb : Nat) : Int))).drew V (burL rl pp fB (t + 1)) := by
                      rw [SU.out]
                      exact (W1.out _).old rfl
                    clear RB BX hVX SU W1 hb0
                    go_upto_region 35 with (fail)
                    go_region
                    generalize (wr.setCell ⟨V, pp + t, none⟩ (.int .u8 ((y ^^^ bb : Nat) : Int))).drew = wx at B2 V2 R2 ⊢
                    clear c1 c2 c3
                    go_wp2
                    go_roundw
                    case rel => exact ⟨t + 1, by omega, by go_num, R2, B2, V2⟩
                    case measure => simp [intOf]; omega
                  · have f1 : ¬ (t : Int) < 4 := by omega
                    obtain rfl : t = 4 := by omega
                    have LQ := Lib.hid (burL_lt rl pp fB 4 RLT.out)
                    have NQ : (burL rl pp fB 4).length = al.size := by rw [burL_len, HRX.out]
                    have HNQ := Lib.hid NQ
                    clear NQ
                    obtain ⟨qq, hqq⟩ : ∃ qq, qq = burL rl pp fB 4 := ⟨_, rfl⟩
                    rw [← hqq] at RB RB4 LQ HNQ
                    clear hqq
                    have CV := RB.conv (cap := cap3) LQ.out HNQ.out
                    have hbq := bl_strOf LQ.out
                    have HBQ := Lib.hid hbq
                    have hsq : (strOf qq).size ≤ 1073741824 := by rw [strOf_size, HNQ.out]; omega
                    have HSQ := Lib.hid hsq
                    clear hbq hsq
                    replace G := G.below BX
                    replace ce := (World.cell?_of_block (w := w8) (BX.block _ (World.block_lt_of_cell? w8 _ ce))).trans ce
                    replace wantz := wantz.below BX
                    clear RB hVX BX
                    go_wp2_with fail
                    refine (all_any (strOf qq) _ HSQ.out).mono ?_
                    rintro e w9 ⟨us, n9, v9, rfl, hv9, hr9, G9⟩
                    rw [HBQ.out] at hr9
                    obtain ⟨hus, hn9⟩ := reads_one RB4.out hr9
                    subst hus
                    subst hn9
                    replace G := G.below G9
                    replace ce := (World.cell?_of_block (w := wr) (G9.block _ (World.block_lt_of_cell? wr _ ce))).trans ce
                    replace wantz := wantz.below G9
                    clear hr9 G9 CV RB4
                    obtain ⟨lb9, lc9, hvv, _, _⟩ := hv9.is
                    rw [HPZ.out] at hvv
                    subst hvv
                    have lw9 : (pz : Int) ≤ (wcap : Int) := by have := HZL.out; omega
                    go_wp2_with fail
                    refine (same_any hv9 wantz (by rw [HPZ.out]; have := HZL.out; omega) (by rw [HPZ.out]; have := HZL.out; omega)).mono ?_
                    rintro e wz ⟨rfl, G1⟩
                    rw [sameB_yes rfl]
                    have F9 := G.bel.trans (G1.mono G.bel.size)
                    replace ce := (World.cell?_of_block (w := w9) (G1.block _ (World.block_lt_of_cell? w9 _ ce))).trans ce
                    clear G1 hv9 wantz G
                    go_wp2
                    go_ret
                    exact ⟨by simp, F9⟩
            · as_aux_lemma =>
              have d1 : decide ((i0 : Int) < (xs.length : Int)) = true := by simp; omega
              have d2 : (i0 : Int) < (xs.length : Int) := by omega
              have ce := G.endCell rfl (j := i0 + 1) (by omega)
              have d3 : ¬ (En xs (i0 + 1) : Int) ≤ (kk : Int) := by have := HJ3.out (by omega); omega
              have tn : ((i0 : Int) + 1).toNat = i0 + 1 := by omega
              obtain ⟨e1, he1⟩ : ∃ e1, En xs (i0 + 1) = e1 := ⟨_, rfl⟩
              rw [he1] at ce d3
              clear he1
              have RC := Lib.hid (reads_cut G.can hj1 HJ2.out HJ3.out (by have := HAZ.out; omega))
              have hex : bl (al.extract 0 kk) = (recs xs).take kk := by rw [bl_extract, List.drop_zero, Nat.sub_zero, HAB.out]
              have HEX := Lib.hid hex
              clear hex
              have lk : (kk : Int) ≤ (al.size : Int) := by omega
              have hsx2 : (al.extract 0 kk).size ≤ 1073741824 := by rw [ByteArray.size_extract]; omega
              go_wp2_with fail
              refine (all_any (al.extract 0 kk) _ hsx2).mono ?_
              rintro e w7 ⟨ys, n, v, rfl, hv2, hr, G1⟩
              rw [HEX.out] at hr
              obtain ⟨hys, hnn⟩ := reads_one RC.out hr
              replace G := G.below G1
              have want := owns_sls G.own fun z hz => can_okay (G.can z hz)
              have want2 := want.take hj1
              have cj := G.endCell rfl hj1
              rw [hys] at want2
              rw [hnn] at cj
              have hyl : ys.length = i0 := by rw [← hys, List.length_take]; omega
              clear hr G1 RC HEX hsx2 hys hnn
              obtain ⟨lb, lc, hvv, _, _⟩ := hv2.is
              rw [hyl] at hvv
              subst hvv
              have HYL := Lib.hid hyl
              clear hyl
              have lw : (i0 : Int) ≤ (wcap : Int) := by omega
              have CJ := Lib.hid cj
              clear cj
              go_wp2_with fail
              refine (same_any hv2 want2 (by rw [HYL.out]; omega) (by rw [HYL.out]; omega)).mono ?_
              rintro e w8 ⟨rfl, G1⟩
              rw [sameB_yes rfl]
              replace G := G.below G1
              replace want := want.below G1
              have cj : w8.cell? ⟨eg, i0, none⟩ = some (.int .i64 (n : Int)) := by
                rw [World.cell?_of_block (w := w7) (G1.block _ (World.block_lt_of_cell? w7 _ CJ.out))]
                exact CJ.out
              clear G1 hv2 want2 CJ
              have LD := G.o.loads (P := Try.prog) (ty := 39) (by kernel_rfl) (by rw [show (dV d).toArray.size = 4 by simp [dV_len, HD.out]]; kernel_rfl)
              have q4 := eq_four HD.out HD2.out
              by_cases dz : d = [0, 0, 0, 0]
              · rw [decide_eq_true dz] at q4
                clear dz
                go_wp2_with (refine wpl_load LD rfl rfl rfl ?_)
                go_ret
                exact ⟨rfl, G.bel⟩
              · rw [decide_eq_false dz] at q4
                have B0 := Lib.hid (four_ne HD.out dz)
                clear dz
                go_upto_region 29 with (refine wpl_load LD rfl rfl rfl ?_)
                clear LD q4 cj
                obtain ⟨zs, x, hzx⟩ : ∃ zs x, xs = zs ++ [x] := by
                  rcases List.eq_nil_or_concat xs with h | ⟨zs, x, h⟩
                  · exact absurd h hxe
                  · exact ⟨zs, x, by rw [h]; simp⟩
                have hzl : xs.length = zs.length + 1 := by rw [hzx]; simp
                have hcan := G.can
                rw [hzx] at hcan
                have canz : ∀ z ∈ zs, Can z := fun z hz => hcan z (by simp [hz])
                have canx : Can x := hcan x (by simp)
                have hbody := body_len canx
                have hEp : En xs zs.length = (recs zs).length := by unfold En; rw [hzx, List.take_left' rfl]
                have hal2 : al.size = (recs zs).length + 6 + (bodyL x).length := by rw [HAZ.out, hzx, recs_append, recs_one, List.length_append, rec_len]; omega
                obtain ⟨q, hq⟩ : ∃ q, (bodyL x).length = q + 4 := ⟨(bodyL x).length - 4, by omega⟩
                obtain ⟨tt, htt, htl⟩ := cut_num at' q (by omega)
                have RB4 := Lib.hid (reads_burst canz canx (t := tt) (by omega) B0.out (four_lt HD.out HD2.out))
                rw [← hzx] at RB4
                have wantz : SlsAt w8 (.slice (some ⟨wg, 0, none⟩) zs.length wcap) zs := by
                  have h2 := want.take (m := zs.length) (by omega)
                  have e2 : xs.take zs.length = zs := by rw [hzx]; exact List.take_left' rfl
                  rw [e2] at h2
                  exact h2
                have ce := G.endCell rfl (j := zs.length) (by omega)
                rw [hEp] at ce
                have HAL2 := Lib.hid hal2
                have HQ := Lib.hid hq
                have HTT := Lib.hid htt
                have HZL := Lib.hid hzl
                have HZX := Lib.hid hzx
                clear hEp hal2 hq htt hcan canz canx hbody want hzl hzx
                obtain ⟨fr, hfr⟩ : ∃ fr, (recs zs).length = fr := ⟨_, rfl⟩
                obtain ⟨pz, hpz⟩ : ∃ pz, zs.length = pz := ⟨_, rfl⟩
                rw [hfr] at ce HAL2 RB4
                rw [hpz] at ce HZL wantz
                have HPZ := Lib.hid hpz
                clear hfr hpz
                have i1 : (xs.length : Int) + 1 - 2 = (pz : Int) := by have := HZL.out; omega
                have i2 : (xs.length : Int) - 1 = (pz : Int) := by have := HZL.out; omega
                have i3 : (pz : Int) < (xs.length : Int) + 1 := by have := HZL.out; omega
                have i4 : (0 : Int) ≤ (pz : Int) := by omega
                have i5 : (al.size : Int) - ((fr : Int) + 6) - 3 = (q : Int) + 1 := by have := HAL2.out; have := HQ.out; omega
                have zfr : fr ≤ 20000 := by have := HAL2.out; omega
                have zq : q ≤ 20000 := by have := HAL2.out; have := HQ.out; omega
                obtain ⟨cap3, X3, CV, RB, BX, SX⟩ := conv_row w8 al
                rw [HAB.out] at RB
                go_upto_region 32 with (fail)
                rw [HTT.out]
                obtain ⟨pp, hpp⟩ : ∃ pp : Nat, pp = fr + 6 + tt := ⟨_, rfl⟩
                rw [show wrap64 ((fr : Int) + 6 + (tt : Int)) = (pp : Int) by unfold wrap64; omega]
                rw [← hpp] at RB4
                have hpl : pp + 4 ≤ al.size := by have := HAL2.out; have := HQ.out; omega
                have HPP := Lib.hid hpp
                clear hpp HTT CV i5
                obtain ⟨V, hV⟩ : ∃ V, V = w8.heap.size := ⟨_, rfl⟩
                rw [← hV] at RB ⊢
                have hVX : V < X3.heap.size := by rw [hV]; exact SX
                have HV := Lib.hid hV
                clear hV SX
                have hbN : Hid (∀ t, t < 4 → d[t]? = some (four d / 256 ^ t % 256)) := Lib.hid fun t ht => four_at HD.out HD2.out ht
                generalize four d = fB at RB4 hbN B0
                have hrx : (recs xs).length = al.size := HAZ.out.symm
                have HRX := Lib.hid hrx
                clear hrx
                have RLT := Lib.hid (recs_lt G.can)
                generalize recs xs = rl at RB RB4 HAB HRX RLT HAZ
                go_wp2
                go_loopw [22] (fun i wr => ∃ t : Nat, t ≤ 4 ∧ i = .int .i64 t ∧ RowB wr V (burL rl pp fB t) ∧ Below w8.heap.size w8 wr ∧ V < wr.heap.size) (fun i _ => 4 - (intOf i).toNat)
                case atStart => exact ⟨0, by decide, rfl, by rw [burL_zero]; exact RB, BX, hVX⟩
                case round =>
                  clear RB BX hVX
                  obtain ⟨t, ht, rfl, RB, BX, hVX⟩ := hrel
                  by_cases h4 : t < 4
                  · have f1 : (t : Int) < 4 := by omega
                    have hin' : pp + t < rl.length := by rw [HRX.out]; omega
                    obtain ⟨c1, c2⟩ := RB.cell (pp + t) _ (burL_at rl pp fB t hin')
                    have hlb := RLT.out _ (List.getElem_mem hin')
                    have SU := Lib.hid (burL_succ rl pp fB t hin')
                    have W1 := Lib.hid (fun v => RB.set (pp + t) v (by rw [burL_len]; exact hin'))
                    generalize rl[pp + t] = y at c1 hlb SU
                    have hb0 := hbN.out t h4
                    have c3 : wr.cell? ⟨B, t, none⟩ = some (.int .u8 ((fB / 256 ^ t % 256 : Nat) : Int)) := by
                      rw [(G.o.old BX).cell]
                      simp [dV, hb0]
                    have g2 : bits .xor .u8 (y : Int) ((fB / 256 ^ t % 256 : Nat) : Int) = ((y ^^^ (fB / 256 ^ t % 256) : Nat) : Int) := u8_xor_nat _ _ hlb (Nat.mod_lt _ (by decide))
                    have hm8 : fB / 256 ^ t % 256 < 256 := Nat.mod_lt _ (by decide)
                    generalize fB / 256 ^ t % 256 = bb at c3 g2 SU hm8
                    have g3 : ((pp : Int) + (t : Int)).toNat = pp + t := by omega
                    have g4 : (pp : Int) + (t : Int) < (al.size : Int) := by omega
                    have g5 : (0 : Int) ≤ (pp : Int) + (t : Int) := by omega
                    have B2 : Below w8.heap.size w8 ((wr.setCell ⟨V, pp + t, none⟩ (.int .u8 ((y ^^^ bb : Nat) : Int))).drew) := (BX.setCell (by have := HV.out; simp; omega) _).drew
                    have V2 : V < (wr.setCell ⟨V, pp + t, none⟩ (.int .u8 ((y ^^^ bb : Nat) : Int))).drew.heap.size := by simpa [World.setCell] using hVX
                    have R2 : RowB (wr.setCell ⟨V, pp + t, none⟩ (.int .u8 ((y ^^^ bb : Nat) : Int))).drew V (burL rl pp fB (t + 1)) := by
                      rw [SU.out]
                      exact (W1.out _).old rfl
                    clear RB BX hVX SU W1 hb0
                    go_upto_region 35 with (fail)
                    go_region
                    generalize (wr.setCell ⟨V, pp + t, none⟩ (.int .u8 ((y ^^^ bb : Nat) : Int))).drew = wx at B2 V2 R2 ⊢
                    clear c1 c2 c3
                    go_wp2
                    go_roundw
                    case rel => exact ⟨t + 1, by omega, by go_num, R2, B2, V2⟩
                    case measure => simp [intOf]; omega
                  · have f1 : ¬ (t : Int) < 4 := by omega
                    obtain rfl : t = 4 := by omega
                    have LQ := Lib.hid (burL_lt rl pp fB 4 RLT.out)
                    have NQ : (burL rl pp fB 4).length = al.size := by rw [burL_len, HRX.out]
                    have HNQ := Lib.hid NQ
                    clear NQ
                    obtain ⟨qq, hqq⟩ : ∃ qq, qq = burL rl pp fB 4 := ⟨_, rfl⟩
                    rw [← hqq] at RB RB4 LQ HNQ
                    clear hqq
                    have CV := RB.conv (cap := cap3) LQ.out HNQ.out
                    have hbq := bl_strOf LQ.out
                    have HBQ := Lib.hid hbq
                    have hsq : (strOf qq).size ≤ 1073741824 := by rw [strOf_size, HNQ.out]; omega
                    have HSQ := Lib.hid hsq
                    clear hbq hsq
                    replace G := G.below BX
                    replace ce := (World.cell?_of_block (w := w8) (BX.block _ (World.block_lt_of_cell? w8 _ ce))).trans ce
                    replace wantz := wantz.below BX
                    clear RB hVX BX
                    go_wp2_with fail
                    refine (all_any (strOf qq) _ HSQ.out).mono ?_
                    rintro e w9 ⟨us, n9, v9, rfl, hv9, hr9, G9⟩
                    rw [HBQ.out] at hr9
                    obtain ⟨hus, hn9⟩ := reads_one RB4.out hr9
                    subst hus
                    subst hn9
                    replace G := G.below G9
                    replace ce := (World.cell?_of_block (w := wr) (G9.block _ (World.block_lt_of_cell? wr _ ce))).trans ce
                    replace wantz := wantz.below G9
                    clear hr9 G9 CV RB4
                    obtain ⟨lb9, lc9, hvv, _, _⟩ := hv9.is
                    rw [HPZ.out] at hvv
                    subst hvv
                    have lw9 : (pz : Int) ≤ (wcap : Int) := by have := HZL.out; omega
                    go_wp2_with fail
                    refine (same_any hv9 wantz (by rw [HPZ.out]; have := HZL.out; omega) (by rw [HPZ.out]; have := HZL.out; omega)).mono ?_
                    rintro e wz ⟨rfl, G1⟩
                    rw [sameB_yes rfl]
                    have F9 := G.bel.trans (G1.mono G.bel.size)
                    replace ce := (World.cell?_of_block (w := w9) (G1.block _ (World.block_lt_of_cell? w9 _ ce))).trans ce
                    clear G1 hv9 wantz G
                    go_wp2
                    go_ret
                    exact ⟨by simp, F9⟩
set_option maxRecDepth 100000 in
set_option maxHeartbeats 1000000 in
theorem torn_many {v0 : Value} (L : List Sp) (ct at' : Int) (d : List Nat) {w : World} (hv : SlsAt w v0 L) (hl0 : L.length ≤ 9223372036854775807) (hl : ¬ L.length ≤ 20) :
    Calls Try.prog 6 #[v0, .int .i64 ct, .int .i64 at', .agg (dV d).toArray] w fun e w' => e = .returned (.bool true) ∧ Below w.heap.size w w' := by
  have F : Below w.heap.size w (w.alloc (.cells (dV d).toArray 39)) := (Below.refl _ _).alloc (Nat.le_refl _) _
  obtain ⟨b1, cap1, rfl, hcap, _⟩ := hv.is
  clear hv
  have l41 : (20 : Int) < (L.length : Int) := by omega
  go_enter Try.func6, Try.ntmps6
  go_upto_region 1 with (fail)
  generalize w.alloc (.cells (dV d).toArray 39) = w1 at F ⊢
  go_wp2_with fail
  refine (awake_any _).mono ?_
  rintro e w2 ⟨rfl, G1⟩
  replace F := F.trans (G1.mono F.size)
  clear G1
  go_wp2
  go_ret
  exact ⟨rfl, F⟩
theorem torn_walk {v0 : Value} (L : List Sp) (ct at' : Int) (d : List Nat) {w : World} (hv : SlsAt w v0 L) (hl0 : L.length ≤ 9223372036854775807) (hd : d.length = 4 ∧ ∀ b ∈ d, b < 256) :
    Calls Try.prog 6 #[v0, .int .i64 ct, .int .i64 at', .agg (dV d).toArray] w fun e w' => e = .returned (.bool true) ∧ Below w.heap.size w w' := by
  by_cases hl : L.length ≤ 20
  · exact torn_main L ct at' d hv hl hd.1 hd.2
  · exact torn_many L ct at' d hv hl0 hl
end Go.Proofs.Ytahalddoloppmaa.Sl
