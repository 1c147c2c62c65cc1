/-
  The walk of OutletAsked.
-/
import Derived.Test.YtdldoklkenhopaaGreatDoorSet7
import Derived.Test.YtdldoklkenhopaaGreatDoorInApi
import Derived.Test.YtdldoklkenhopaaGreatDoorFiRefG
import Derived.Test.YtdldoklkenhopaaGreatDoorFiSame
import Derived.BigQuiet
namespace Go.Proofs.YtdldoklkenhopaaGreatDoor.Ou
open Go.RowKit Go.PlainAid
open Hx Fi Ch In
set_option linter.unusedVariables false
set_option maxRecDepth 20000
set_option linter.unusedSimpArgs false

/-- what is kept beside the host -/
def Ky (x : Fi.Fd) : Prop := getN (ls nHost) [x] = 0 ∧ getN (ls nCL) [x] = 0 ∧ getN (ls nTE) [x] = 0 ∧ x.n.size + x.v.size < 100
structure Kp (acc : List Fi.Fd) (j : Nat) : Prop where
  len : j = acc.length
  is : ∃ ks, acc = fHost :: ks ∧ ∀ y ∈ ks, Ky y
theorem Kp.start : Kp [fHost] 1 := ⟨rfl, [], rfl, by simp⟩
theorem Kp.snoc {acc : List Fi.Fd} {j : Nat} {x : Fi.Fd} (h : Kp acc j) (hx : Ky x) : Kp (acc ++ [x]) (j + 1) := by
  obtain ⟨ks, rfl, hk⟩ := h.is
  refine ⟨by rw [List.length_append, ← h.len]; rfl, ks ++ [x], rfl, fun y hy => ?_⟩
  rcases List.mem_append.1 hy with hy | hy
  · exact hk y hy
  · rw [List.mem_singleton] at hy; subst hy; exact hx
theorem Kp.reach {acc : List Fi.Fd} {j : Nat} (h : Kp acc j) : Fi.Reach acc := by
  obtain ⟨ks, rfl, hk⟩ := h.is
  intro y hy
  rcases List.mem_cons.1 hy with rfl | hy
  · exact ⟨by decide, by decide⟩
  · have := (hk y hy).2.2.2
    exact ⟨by omega, by omega⟩
theorem Kp.zero {acc : List Fi.Fd} {j : Nat} (h : Kp acc j) : getN (ls nHost) acc = 1 ∧ getN (ls nTE) acc = 0 ∧ getN (ls nCL) acc = 0 := by
  obtain ⟨ks, rfl, hk⟩ := h.is
  have e : fHost :: ks = [fHost] ++ ks := rfl
  rw [e, getN_append, getN_append, getN_append, getN_zero fun y hy => (hk y hy).1, getN_zero fun y hy => (hk y hy).2.1, getN_zero fun y hy => (hk y hy).2.2.1]
  have e0 : getN (ls nHost) [fHost] = 1 := by decide +kernel
  have e1 : getN (ls nTE) [fHost] = 0 := by decide +kernel
  have e2 : getN (ls nCL) [fHost] = 0 := by decide +kernel
  rw [e0, e1, e2]
  exact ⟨rfl, rfl, rfl⟩
theorem asked_facts {m t : ByteArray} {acc : List Fi.Fd} {j : Nat} (h : askE (ls m) (ls t) acc = 0) (hk : Kp acc j) : ∃ (S : ByteArray) (Q : Rq), askS (ls m) (ls t) acc = S ∧ S.size ≤ 4096 ∧ rdF (ls S) = .ok Q S.size ∧ Q.m = ls m ∧ Q.t = ls t ∧ Q.fs = acc := by
  obtain ⟨a, c⟩ := ask_ok h
  obtain ⟨_, _, hl, _⟩ := lay_ok c
  obtain ⟨z0, z1, z2⟩ := hk.zero
  have hs : askS (ls m) (ls t) acc = tx (headF (askL (ls m) (ls t)) acc) := if_pos h
  refine ⟨_, askQ (ls m) (ls t) acc, hs, by rw [tx_size]; exact hl, ?_, rfl, rfl, rfl⟩
  rw [ls_tx, tx_size]
  exact rd_ask h z0 z1 z2
theorem own_first {N : Nat} (w : World) (f : Fi.Fd) (h : N ≤ w.heap.size) : (w.alloc (.cells (fdV f) 26)).ownsRow N 26 2 (.slice (some ⟨w.heap.size, 0, none⟩) 1 1) 1 (fdsL [f]) := by
  refine ⟨rfl, .inr ⟨w.heap.size, 1, fdV f, rfl, h, by show (w.heap.push _)[w.heap.size]? = _; simp, Nat.le_refl _, by decide, rfl, rfl⟩⟩
theorem one_fds (w : World) (f : Fi.Fd) : FdsAt (w.alloc (.cells (fdV f) 26)) (.slice (some ⟨w.heap.size, 0, none⟩) 1 1) [f] := one_at w f
set_option maxHeartbeats 4000000 in
theorem bigOutletAsked (w : World) (v : Value) (xs : List Fi.Fd) (m t : ByteArray) (hv : FdsAt w v xs) (hl : xs.length ≤ 9223372036854775807) (hm : m.size ≤ 140737488355328) (ht : t.size ≤ 140737488355328) (h : 30 < xs.length) :
    Calls Tryz.prog 3 #[.agg #[.string m, .string t], v] w fun e w' => e = .returned (.bool true) ∧ Below w.heap.size w w' := by
  have J := OuJ.new w m t
  obtain ⟨base, cap, rfl, _, _⟩ := hv.is
  clear hv
  obtain ⟨n, hn⟩ : ∃ n, n = xs.length := ⟨_, rfl⟩
  rw [← hn] at h hl ⊢
  clear hn
  have d1 : (30 : Int) < (n : Int) := by omega
  clear h
  go_enter Tryz.func3, Tryz.ntmps3
  go_upto_region 1 with (fail)
  generalize w.alloc (.cells #[.string m, .string t] 22) = X at J ⊢
  generalize w.heap.size = B at J ⊢
  go_wp2_with fail
  refine (awake_any _).mono ?_
  rintro e w1 ⟨rfl, F1⟩
  replace J := J.below F1
  clear F1
  go_wp2
  go_ret
  exact ⟨rfl, J.bel⟩
set_option maxRecDepth 200000 in
set_option maxHeartbeats 16000000 in
theorem mainOutletAsked (w : World) (v : Value) (xs : List Fi.Fd) (m t : ByteArray) (hv : FdsAt w v xs) (h30 : xs.length ≤ 30) (hm : m.size ≤ 140737488355328) (ht : t.size ≤ 140737488355328) (hr : Fi.Reach xs) :
    Calls Tryz.prog 3 #[.agg #[.string m, .string t], v] w fun e w' => e = .returned (.bool true) ∧ Below w.heap.size w w' := by
  obtain ⟨i0, hi, hz0, hz1, hz2⟩ := info_parts infoFd
  have J := OuJ.new w m t
  obtain ⟨base, cap, rfl, _, _⟩ := hv.is
  have HV := Lib.hid hv
  have HR := Lib.hid hr
  clear hv hr
  obtain ⟨n, hn⟩ : ∃ n, n = xs.length := ⟨_, rfl⟩
  have hn30 : n ≤ 30 := by omega
  rw [← hn] at HV ⊢
  have HN := Lib.hid hn
  clear hn h30
  have d1 : ¬ (30 : Int) < (n : Int) := by omega
  go_enter Tryz.func3, Tryz.ntmps3
  go_upto_region 1 with (fail)
  generalize w.alloc (.cells #[.string m, .string t] 22) = X at J ⊢
  generalize w.heap.size = B at J ⊢
  go_wp2_with fail
  refine (awake_any _).mono ?_
  rintro e w1 ⟨rfl, F1⟩
  replace J := J.below F1
  clear F1
  have own0 := own_first (N := w1.heap.size) w1 fHost (Nat.le_refl _)
  have bel0 : Below w1.heap.size w1 (w1.alloc (.cells (fdV fHost) 26)) := (Below.refl _ _).alloc (Nat.le_refl _) _
  have K0 := Lib.hid Kp.start
  go_wp2_with (refine wpl_build (fdV_size fHost) rfl rfl rfl ?_)
  clear d1
  go_loopw [5, 6] (fun v i wr => ∃ (k j : Nat) (acc : List Fi.Fd) (b : Option Addr) (c : Nat), k ≤ n ∧ j ≤ k + 1 ∧ v = .slice b j c ∧ i = .int .i64 k ∧ Hid (Kp acc j) ∧ wr.ownsRow w1.heap.size 26 2 (.slice b j c) j (fdsL acc) ∧ Below w1.heap.size w1 wr) (fun _ i _ => n - (intOf i).toNat)
  case atStart => exact ⟨0, 1, [fHost], _, 1, Nat.zero_le _, by omega, rfl, rfl, K0, own0, bel0⟩
  case round =>
    clear own0 bel0 K0
    obtain ⟨k, j, acc, b, c, hk, hj, rfl, rfl, KP, own, bel⟩ := hrel
    have hN := bel.size
    by_cases hkn : k < n
    · have l1 : (k : Int) < (n : Int) := by omega
      obtain ⟨x, hx⟩ : ∃ x, xs[k]? = some x := ⟨xs[k]'(by have := HN.out; omega), List.getElem?_eq_getElem _⟩
      have hmem := List.mem_of_getElem? hx
      have hrx : Fi.Reach [x] := fun y hy => by rw [List.mem_singleton] at hy; subst hy; exact HR.out y hmem
      have xz := HR.out x hmem
      have VW := HV.out.below (J.bel.trans (bel.mono J.bel.size))
      obtain ⟨a, rfl, ha, L1, _, _⟩ := VW.loads hx
      have ldx : ∀ u, Below wr.heap.size wr u → Loads Tryz.prog u 26 (a.add (k * 2)) (fdV x) := fun u hb => by
        obtain ⟨a', ea, hb', L', _⟩ := (VW.below hb).loads hx
        obtain rfl := Option.some.inj ea
        exact L'
      have cel : ∀ u, Below wr.heap.size wr u → u.cell? (a.add (k * 2)) = some (.string x.n) ∧ u.cell? { (a.add (k * 2)) with off := (a.add (k * 2)).off + 1, spot := none } = some (.string x.v) := fun u hb => by
        obtain ⟨a', ea, hb', L', c0, c1⟩ := (VW.below hb).loads hx
        obtain rfl := Option.some.inj ea
        exact ⟨c0, by rw [add_next]; exact c1⟩
      have gt : ∀ (nm : ByteArray) (hz : nm.size ≤ 140737488355328) (u : World), Below wr.heap.size wr u → Calls Tryz.prog 5 #[.slice (some ⟨u.heap.size, 0, none⟩) 1 1, .string nm] (u.alloc (.cells (fdV x) 26)) fun e w' => e = .returned (.tuple #[.string (getS (ls nm) [x]), .int .i64 (getN (ls nm) [x])]) ∧ Below wr.heap.size wr w' := fun nm hz u hb =>
        (get_any nm (one_fds u x) (by simp) hz hrx).mono fun e w' ⟨p, q⟩ => ⟨p, (hb.alloc hb.size _).trans (q.mono (by simp; have := hb.size; omega))⟩
      have q1 := gt nHost (by decide)
      have q2 := gt nCL (by decide)
      have q3 := gt nTE (by decide)
      have b1 := valsF_le (ls nHost) [x]
      have b2 := valsF_le (ls nCL) [x]
      have b3 := valsF_le (ls nTE) [x]
      have ky : getN (ls nHost) [x] = 0 → getN (ls nCL) [x] = 0 → getN (ls nTE) [x] = 0 → x.n.size + x.v.size < 100 → Ky x := fun a b c d => ⟨a, b, c, d⟩
      obtain ⟨hn, ehn⟩ : ∃ hn, getN (ls nHost) [x] = hn := ⟨_, rfl⟩
      obtain ⟨cn, ecn⟩ : ∃ cn, getN (ls nCL) [x] = cn := ⟨_, rfl⟩
      obtain ⟨tn, etn⟩ : ∃ tn, getN (ls nTE) [x] = tn := ⟨_, rfl⟩
      have b1 : hn ≤ 1 := by rw [← ehn]; exact b1
      have b2 : cn ≤ 1 := by rw [← ecn]; exact b2
      have b3 : tn ≤ 1 := by rw [← etn]; exact b3
      rw [ehn] at q1 ky
      rw [ecn] at q2 ky
      rw [etn] at q3 ky
      have HX := Lib.hid hx
      have XZ := Lib.hid xz
      have KY := Lib.hid ky
      have LDX := Lib.hid ldx
      have CEL := Lib.hid cel
      clear gt hx hmem xz hrx ehn ecn etn ky ldx cel VW
      have G1 := Lib.hid q1
      have G2 := Lib.hid q2
      have G3 := Lib.hid q3
      clear q1 q2 q3
      unfold nHost at G1
      unfold nCL at G2
      unfold nTE at G3
      have B0 : Below wr.heap.size wr wr := Below.refl _ _
      go_wp2_with (first | refine wpl_load L1 rfl rfl rfl ?_ | refine wpl_build (fdV_size x) rfl rfl rfl ?_)
      refine (G1.out wr B0).mono ?_
      rintro e wa ⟨rfl, B1⟩
      clear L1 B0 G1
      have L2 := LDX.out wa B1
      go_wp2_with (first | refine wpl_load L2 rfl rfl rfl ?_ | refine wpl_build (fdV_size x) rfl rfl rfl ?_)
      refine (G2.out wa B1).mono ?_
      rintro e wb ⟨rfl, B2⟩
      clear L2 B1 G2
      have L3 := LDX.out wb B2
      go_wp2_with (first | refine wpl_load L3 rfl rfl rfl ?_ | refine wpl_build (fdV_size x) rfl rfl rfl ?_)
      refine (G3.out wb B2).mono ?_
      rintro e wc ⟨rfl, B3⟩
      clear L3 B2 G3
      have own3 := owns_below own B3
      have bel3 := bel.trans (B3.mono bel.size)
      obtain ⟨c0, c1⟩ := CEL.out wc B3
      go_upto_region 12 with (fail)
      by_cases hsum : hn + cn + tn = 0
      · obtain rfl : hn = 0 := by omega
        obtain rfl : cn = 0 := by omega
        obtain rfl : tn = 0 := by omega
        obtain ⟨z1, z2⟩ := XZ.out
        by_cases h100 : x.n.size + x.v.size < 100
        · have K2 := Lib.hid (KP.out.snoc (KY.out rfl rfl rfl h100))
          have g100 : (x.n.size : Int) + (x.v.size : Int) < 100 := by omega
          clear h100 KP KY b1 b2 b3 hsum
          go_quiet (fail)
          have BQ : Below wc.heap.size wc (wc.drewN nq) := ⟨rfl, rfl, rfl, Nat.le_refl _, fun _ _ => rfl⟩
          have own4 := owns_below own3 BQ
          have bel4 := bel3.trans (BQ.mono bel3.size)
          have L5 := LDX.out _ (B3.trans (BQ.mono B3.size))
          clear own3 bel3 c0 c1 B3 BQ own bel g100
          generalize wc.drewN nq = wd at own4 bel4 L5 ⊢
          have hN4 := bel4.size
          go_upto_region 8 with (first | refine wpl_load L5 rfl rfl rfl ?_ | refine wpl_build (fdV_size x) rfl rfl rfl ?_ | (at_builtin; refine wpList_append_own _ rfl _ _ 23 rfl w1.heap.size 26 i0 (.agg #[.string ⟨#[]⟩, .string ⟨#[]⟩]) 2 32 Tryz.underlying23 hi hz0 hz1 hz2 rfl (by decide) _ _ _ rfl (own4.alloc _) ⟨wd.heap.size, 0, none⟩ 1 1 (fdL x) rfl ?c0 ?c1 (fdL_one x) ?c3 ?c4 ?c5 ?_))
          case c0 => rfl
          case c1 => exact new_fd wd x
          case c3 => unfold maxLen; omega
          case c4 => omega
          case c5 => simp; omega
          intro v' w4 own5 hgrow _
          have own6 : w4.ownsRow w1.heap.size 26 2 v' (j + 1) (fdsL (acc ++ [x])) := by
            rw [fdsL_snoc]
            exact own5
          have bel6 := (bel4.alloc hN4 (.cells (fdV x) 26)).grown hgrow (by simp; omega) (fun i hi => (own4.lt i hi).1)
          clear own4 own5 bel4 hgrow L5
          obtain ⟨b', c', rfl⟩ := own_shape own6
          go_wp2
          go_roundw
          case rel => exact ⟨k + 1, j + 1, acc ++ [x], b', c', by omega, by omega, rfl, by go_num, K2, own6, bel6⟩
          case measure => simp [intOf]; omega
        · have g100 : ¬ (x.n.size : Int) + (x.v.size : Int) < 100 := by omega
          clear h100 KY b1 b2 b3 hsum
          go_quiet (fail)
          have BQ : Below wc.heap.size wc (wc.drewN nq) := ⟨rfl, rfl, rfl, Nat.le_refl _, fun _ _ => rfl⟩
          have own4 := owns_below own3 BQ
          have bel4 := bel3.trans (BQ.mono bel3.size)
          clear own3 bel3 c0 c1 B3 BQ own bel g100
          generalize wc.drewN nq = wd at own4 bel4 ⊢
          go_wp2
          go_roundw
          case rel => exact ⟨k + 1, j, acc, b, c, by omega, by omega, rfl, by go_num, KP, own4, bel4⟩
          case measure => simp [intOf]; omega
      · have gs : ((hn : Int) + (cn : Int) + (tn : Int) == 0) = false := by rw [beq_eq_false_iff_ne]; omega
        clear KY hsum
        go_quiet (fail)
        have BQ : Below wc.heap.size wc (wc.drewN nq) := ⟨rfl, rfl, rfl, Nat.le_refl _, fun _ _ => rfl⟩
        have own4 := owns_below own3 BQ
        have bel4 := bel3.trans (BQ.mono bel3.size)
        clear own3 bel3 c0 c1 B3 BQ own bel gs
        generalize wc.drewN nq = wd at own4 bel4 ⊢
        go_wp2
        go_roundw
        case rel => exact ⟨k + 1, j, acc, b, c, by omega, by omega, rfl, by go_num, KP, own4, bel4⟩
        case measure => simp [intOf]; omega
    · have l1 : ¬ (k : Int) < (n : Int) := by omega
      have V : FdsAt wr (.slice b j c) acc := by
        have := KP.out.len
        subst this
        exact owns_fds own
      replace J := J.below bel
      clear own bel
      have aa := ask_any m t V hm ht (by have := KP.out.len; omega) KP.out.reach
      have c0 := J.c0
      have c1 := J.c1
      by_cases hE : askE (ls m) (ls t) acc = 0
      · obtain ⟨S, Q, s1, s2, s3, s4, s5, s6⟩ := asked_facts hE KP.out
        rw [hE, s1] at aa
        have SF := Lib.hid (And.intro s3 (And.intro s4 (And.intro s5 s6)))
        have hac : acc.length ≤ 31 := by have := KP.out.len; omega
        have HA := Lib.hid hac
        clear s1 s3 s4 s5 s6 hE hac KP
        go_wp2_with fail
        refine aa.mono ?_
        rintro e w2 ⟨rfl, F2⟩
        replace J := J.below F2
        replace V := V.below F2
        clear F2 aa c0 c1
        go_wp2_with fail
        refine (own_new (Owns.none w2 4) 0 rfl).mono ?_
        rintro e w3 ⟨p, rfl, O3⟩
        have C4 := own_add O3 0 rfl S (by simp; omega)
        go_wp2_with fail
        refine C4.mono ?_
        rintro e w4 ⟨rfl, O4⟩
        clear C4 O3
        replace O4 : Owns w2 noZ w4 [inT p (ls S) 0, noT, noT, noT] := O4
        have C5 := own_ok O4 0 1 (by decide) rfl rfl (by rw [ls_len]; omega) SF.out.1
        rw [List.drop_of_length_le (by rw [ls_len]; exact Nat.le_refl _)] at C5
        go_wp2_with fail
        refine C5.mono ?_
        rintro e w5 ⟨fv, rfl, hf, O5⟩
        clear C5 O4
        replace O5 : Owns w2 noZ w5 [inT p [] 0, rqT Q fv, noT, noT] := O5
        obtain ⟨w6, S6, O6⟩ := own_box O5 1 rfl hf
        replace O6 : Owns w2 noZ w6 [inT p [] 0, xT w5.heap.size Q fv, noT, noT] := O6
        obtain ⟨o1, m1, k1, rfl⟩ := hf
        unfold zR at S6
        go_upto_region 20 with (refine wpl_store S6 rfl rfl rfl rfl rfl ?_)
        clear S6 O5
        generalize w5.heap.size = B1 at O6 ⊢
        have C7 := own_none O6 0 rfl (by decide) rd_nil
        go_wp2_with fail
        refine C7.mono ?_
        rintro e w7 ⟨rfl, O7⟩
        clear C7 O6
        replace O7 : Owns w2 noZ w7 [inT p [] 0, xT B1 Q (.slice o1 m1 k1), noT, noT] := O7
        obtain ⟨w8, S8, O8⟩ := own_zero O7 2 rfl
        unfold zR at S8
        go_upto_region 21 with (refine wpl_store S8 rfl rfl rfl rfl rfl ?_)
        clear S8 O7
        generalize w7.heap.size = B2 at O8 ⊢
        have F8 := O8.bel
        replace J := J.below F8
        replace V := V.below F8
        obtain ⟨A8, V8⟩ := own_x O8 1 rfl
        have x0 : w8.cell? ⟨B1, 0, none⟩ = some (.string m) := by rw [A8.cell 0]; show some (Value.string (tx Q.m)) = _; rw [SF.out.2.1, tx_ls]
        have x1 : w8.cell? ⟨B1, 1, none⟩ = some (.string t) := by rw [A8.cell 1]; show some (Value.string (tx Q.t)) = _; rw [SF.out.2.2.1, tx_ls]
        have x2 : w8.cell? ⟨B1, 2, none⟩ = some (.slice o1 m1 k1) := A8.cell 2
        have sm := sameR_any V8 V (by rw [SF.out.2.2.2]; have := HA.out; omega) (by have := HA.out; omega)
        rw [sameB_yes SF.out.2.2.2] at sm
        have c0 := J.c0
        have c1 := J.c1
        have q1 := eq_self m
        have q2 := eq_self t
        have BE := J.bel
        clear A8 V8 F8 O8 V J SF
        go_wp2_with fail
        refine sm.mono ?_
        rintro e w9 ⟨rfl, F9⟩
        replace BE := BE.trans (F9.mono BE.size)
        clear sm F9
        go_wp2
        go_ret
        exact ⟨rfl, BE⟩
      · have hS : askS (ls m) (ls t) acc = ⟨#[]⟩ := if_neg hE
        have i1 : (askE (ls m) (ls t) acc != 0) = true := bne_iff_ne.2 hE
        rw [hS] at aa
        generalize askE (ls m) (ls t) acc = AE at aa i1
        have q0 := eq_self ⟨#[]⟩
        clear hS hE KP V
        go_wp2_with fail
        refine aa.mono ?_
        rintro e w2 ⟨rfl, F2⟩
        replace J := J.below F2
        clear F2 aa c0 c1
        have BE := J.bel
        go_wp2
        go_ret
        exact ⟨rfl, BE⟩
theorem walkOutletAsked {v : Value} (y : ByteArray × ByteArray) (xs : List Fi.Fd) (w : World) (hy : y.1.size ≤ 140737488355328 ∧ y.2.size ≤ 140737488355328) (hv : FdsAt w v xs) (hl : xs.length ≤ 9223372036854775807) (ho : ∀ y ∈ xs, y.Ok) (hr : Fi.Reach xs) :
    Calls Tryz.prog 3 #[.agg #[.string y.1, .string y.2], v] w fun e w' => e = .returned (.bool true) ∧ Below w.heap.size w w' := by
  by_cases h : 30 < xs.length
  · exact bigOutletAsked w v xs y.1 y.2 hv hl hy.1 hy.2 h
  · exact mainOutletAsked w v xs y.1 y.2 hv (by omega) hy.1 hy.2 hr
end Go.Proofs.YtdldoklkenhopaaGreatDoor.Ou
