/-
  The walk of OutletBack.
-/
import Derived.Test.YtdldoklkenhopaaDoorOuTwo
import Derived.Test.YtdldoklkenhopaaDoorFiSame
import Derived.Test.YtdldoklkenhopaaDoorFiSplit2
namespace Go.Proofs.YtdldoklkenhopaaDoor.Ou
open Go.RowKit Go.PlainAid
open Hx Fi Ch In
set_option linter.unusedVariables false
set_option maxRecDepth 20000
set_option linter.unusedSimpArgs false

theorem ne_false {a b : Int} (h : ¬ a = b) : (a == b) = false := beq_eq_false_iff_ne.2 h
theorem ans_facts {st : Int} {xs : List Fi.Fd} (h : ansE st xs = 0) : ∃ S START : ByteArray, ansS st xs = S ∧ spl (ls (S ++ (⟨#[109, 111, 114, 101]⟩ : ByteArray))) = ⟨0, ls START, xs, S.size⟩ ∧ S.size ≤ 4096 ∧ START.size = (reaB st).size + 13 ∧ START.extract 0 9 = ⟨#[72, 84, 84, 80, 47, 49, 46, 49, 32]⟩ ∧ START.extract 13 START.size = reaB st := by
  obtain ⟨a, b, c⟩ := ans_ok h
  obtain ⟨_, _, hl, _⟩ := lay_ok c
  have hs : ansS st xs = tx (headF (ansL st.toNat) xs) := if_pos h
  have hz : ((st.toNat : Nat) : Int) = st := by omega
  have hlen := ansL_len (n := st.toNat) (by omega) (by omega)
  have h3 := (dig3 (n := st.toNat) (by omega) (by omega)).2
  rw [hz] at hlen
  refine ⟨_, tx (ansL st.toNat), hs, ?_, by rw [tx_size]; exact hl, by rw [tx_size]; exact hlen, ?_, ?_⟩
  · rw [ls_append, ls_tx, ls_tx, tx_size]
    exact ans_back h _
  · apply ls_inj
    rw [ls_extract, ls_tx]
    rfl
  · apply ls_inj
    rw [ls_extract, ls_tx, tx_size, hlen]
    have e : ansL st.toNat = (vL ++ 32 :: (digL 8 st.toNat ++ [32])) ++ ls (reaB st) := by
      unfold ansL
      rw [hz]; simp
    have e13 : (vL ++ 32 :: (digL 8 st.toNat ++ [32])).length = 13 := by
      simp only [List.length_append, List.length_cons, List.length_nil, h3]; rfl
    rw [e, List.drop_left' e13, List.take_of_length_le (by rw [ls_len]; omega)]
theorem ask_facts {m t : ByteArray} {xs : List Fi.Fd} (h : askE (ls m) (ls t) xs = 0) : ∃ S START : ByteArray, askS (ls m) (ls t) xs = S ∧ spl (ls (S ++ (⟨#[109, 111, 114, 101]⟩ : ByteArray))) = ⟨0, ls START, xs, S.size⟩ ∧ S.size ≤ 4096 ∧ START.size ≤ 1024 ∧ lnQ (ls START) = .ok (ls m, ls t, 1) := by
  obtain ⟨a, c⟩ := ask_ok h
  obtain ⟨_, _, hl, _⟩ := lay_ok c
  obtain ⟨b1, _, _, _, b2⟩ := askO_is a
  have hs : askS (ls m) (ls t) xs = tx (headF (askL (ls m) (ls t)) xs) := if_pos h
  refine ⟨_, tx (askL (ls m) (ls t)), hs, ?_, by rw [tx_size]; exact hl, by rw [tx_size]; exact b2, by rw [ls_tx]; exact b1⟩
  rw [ls_append, ls_tx, ls_tx, tx_size]
  exact ask_back h _
theorem split_at {S START : ByteArray} {xs : List Fi.Fd} {X : ByteArray} {n : Nat} (hX : S ++ (⟨#[109, 111, 114, 101]⟩ : ByteArray) = X) (hn : xs.length = n) (h : spl (ls (S ++ (⟨#[109, 111, 114, 101]⟩ : ByteArray))) = ⟨0, ls START, xs, S.size⟩) (hz : S.size ≤ 4096) (w : World) :
    Calls Tryd.prog 13 #[.string X] w fun e w' => ∃ b c, e = .returned (.tuple #[.string START, .slice b n c, .int .i64 S.size, .int .i64 0]) ∧ FdsAt w' (.slice b n c) xs ∧ Below w.heap.size w w' := by
  subst hX hn
  have zm : (⟨#[109, 111, 114, 101]⟩ : ByteArray).size = 4 := rfl
  refine (split_any _ w (by rw [ByteArray.size_append, zm]; omega)).mono fun e w' ⟨v, a, b, c⟩ => ?_
  rw [h] at a b
  simp only at a b
  obtain ⟨base, cap, rfl, _, _⟩ := b.is
  rw [tx_ls] at a
  exact ⟨base, cap, a, b, c⟩
set_option maxHeartbeats 4000000 in
theorem bigOutletBack (w : World) (v : Value) (xs : List Fi.Fd) (st : Int) (m t : ByteArray) (hv : FdsAt w v xs) (hl : xs.length ≤ 9223372036854775807) (hm : m.size ≤ 140737488355328) (ht : t.size ≤ 140737488355328) (h : 60 < xs.length ∨ 8192 < m.size ∨ 8192 < t.size) :
    Calls Tryd.prog 4 #[.int .i64 st, .agg #[.string m, .string t], v] w fun e w' => e = .returned (.bool true) ∧ Below w.heap.size w w' := by
  have J := OuJ.new w m t
  obtain ⟨base, cap, rfl, _, _⟩ := hv.is
  clear hv
  obtain ⟨n, hn⟩ : ∃ n, n = xs.length := ⟨_, rfl⟩
  rw [← hn] at h hl ⊢
  clear hn
  have hc : (60 : Int) < (n : Int) ∨ (¬ (60 : Int) < (n : Int) ∧ (8192 : Int) < (m.size : Int)) ∨ (¬ (60 : Int) < (n : Int) ∧ ¬ (8192 : Int) < (m.size : Int) ∧ (8192 : Int) < (t.size : Int)) := by omega
  clear h
  rcases hc with d1 | ⟨d1, d2⟩ | ⟨d1, d2, d3⟩
  all_goals
    go_enter Tryd.func4, Tryd.ntmps4
    go_upto_region 1 with (fail)
    generalize w.alloc (.cells #[.string m, .string t] 22) = X at J ⊢
    generalize w.heap.size = B at J ⊢
    go_wp2_with fail
    refine (awake_any _).mono ?_
    rintro e w1 ⟨rfl, F1⟩
    replace J := J.below F1
    clear F1
    have c0 := J.c0
    have c1 := J.c1
    go_wp2
    go_ret
    exact ⟨rfl, J.bel⟩
set_option maxRecDepth 200000 in
set_option maxHeartbeats 16000000 in
theorem mainOutletBack (w : World) (v : Value) (xs : List Fi.Fd) (st : Int) (m t : ByteArray) (hv : FdsAt w v xs) (h60 : xs.length ≤ 60) (hm : m.size ≤ 8192) (ht : t.size ≤ 8192) (hr : Fi.Reach xs) :
    Calls Tryd.prog 4 #[.int .i64 st, .agg #[.string m, .string t], v] w fun e w' => e = .returned (.bool true) ∧ Below w.heap.size w w' := by
  have J := OuJ.new w m t
  obtain ⟨base, cap, rfl, _, _⟩ := hv.is
  have HV := Lib.hid hv
  have HR := Lib.hid hr
  clear hv hr
  obtain ⟨n, hn⟩ : ∃ n, n = xs.length := ⟨_, rfl⟩
  have hn60 : n ≤ 60 := by omega
  rw [← hn] at HV ⊢
  have HN := Lib.hid hn
  clear hn h60
  have d1 : ¬ (60 : Int) < (n : Int) := by omega
  have d2 : ¬ (8192 : Int) < (m.size : Int) := by omega
  have d3 : ¬ (8192 : Int) < (t.size : Int) := by omega
  have ST0 := Lib.hid (show ShTo xs 0 from fun x hx => by simp at hx)
  go_enter Tryd.func4, Tryd.ntmps4
  go_upto_region 1 with (fail)
  generalize w.alloc (.cells #[.string m, .string t] 22) = X at J ⊢
  generalize w.heap.size = B at J ⊢
  go_wp2_with fail
  refine (awake_any _).mono ?_
  rintro e w1 ⟨rfl, F1⟩
  replace J := J.below F1
  clear F1
  have c0 := J.c0
  have c1 := J.c1
  go_wp2
  clear c0 c1
  go_loop [7] (fun i => ∃ k : Nat, k ≤ n ∧ i = .int .i64 k ∧ Hid (ShTo xs k)) (fun i => n - (intOf i).toNat)
  case atStart => exact ⟨0, Nat.zero_le _, rfl, ST0⟩
  case round =>
    clear ST0
    obtain ⟨k, hk, rfl, ST⟩ := hrel
    by_cases hlt : k < n
    · obtain ⟨x, hx⟩ : ∃ x, xs[k]? = some x := ⟨xs[k]'(by have := HN.out; omega), List.getElem?_eq_getElem _⟩
      obtain ⟨a, rfl, ha, _, c0, c1'⟩ := (HV.out.below J.bel).loads hx
      obtain ⟨r1, r2⟩ := HR.out x (List.mem_of_getElem? hx)
      have l1 : (k : Int) < (n : Int) := by omega
      have c1 : w1.cell? { (a.add (k * 2)) with off := (a.add (k * 2)).off + 1, spot := none } = some (.string x.v) := by rw [nxt]; exact c1'
      clear c1'
      have HX := Lib.hid hx
      clear hx
      have cs : (8192 : Int) < (x.n.size : Int) ∨ (¬ (8192 : Int) < (x.n.size : Int) ∧ (8192 : Int) < (x.v.size : Int)) ∨ (¬ (8192 : Int) < (x.n.size : Int) ∧ ¬ (8192 : Int) < (x.v.size : Int)) := by omega
      rcases cs with e1 | ⟨e1, e2⟩ | ⟨e1, e2⟩
      · go_wp2
        go_ret
        exact ⟨rfl, J.bel⟩
      · go_wp2
        go_ret
        exact ⟨rfl, J.bel⟩
      · have S2 := Lib.hid (ST.out.succ HX.out (by omega) (by omega))
        go_wp2
        go_round
        case rel => exact ⟨k + 1, by omega, by go_num, S2⟩
        case measure => simp [intOf]; omega
    · have l1 : ¬ (k : Int) < (n : Int) := by omega
      have SH := Lib.hid (ST.out.all (by have := HN.out; omega))
      have hl : xs.length ≤ 60 := by have := HN.out; omega
      have HL := Lib.hid hl
      clear ST d1 d2 d3 hl
      have g1 : ∀ z, Below w.heap.size w z → Calls Tryd.prog 6 #[.int .i64 st, .slice base n cap] z fun e w' => e = .returned (.tuple #[.string (ansS st xs), .int .i64 (ansE st xs)]) ∧ Below z.heap.size z w' := fun z hb => answer_any st (HV.out.below hb) HL.out HR.out
      have g3 : ∀ z, Below w.heap.size w z → Calls Tryd.prog 8 #[.string m, .string t, .slice base n cap] z fun e w' => e = .returned (.tuple #[.string (askS (ls m) (ls t) xs), .int .i64 (askE (ls m) (ls t) xs)]) ∧ Below z.heap.size z w' := fun z hb => ask_any m t (HV.out.below hb) (by omega) (by omega) HL.out HR.out
      have SM := Lib.hid (show ∀ (b1 : Option Addr) (c1 : Nat) z, FdsAt z (.slice b1 n c1) xs → Below w.heap.size w z → Calls Tryd.prog 14 #[.slice b1 n c1, .slice base n cap] z fun e w' => e = .returned (.bool true) ∧ Below z.heap.size z w' from fun b1 c1 z hf hb => by
        have h := sameR_any hf (HV.out.below hb) (by have := HL.out; omega) (by have := HL.out; omega)
        rw [sameB_yes rfl] at h
        exact h)
      have HN2 := Lib.hid (show xs.length = n from HN.out.symm)
      clear HR SH HL HV
      rcases Classical.em (ansE st xs = 0) with hA | hA
      · rcases Classical.em (askE (ls m) (ls t) xs = 0) with hK | hK
        · obtain ⟨S, START, s1, s2, s3, s4, s5, s6⟩ := ans_facts hA
          rw [hA, s1] at g1
          obtain ⟨X, hX⟩ : ∃ X, S ++ (⟨#[109, 111, 114, 101]⟩ : ByteArray) = X := ⟨_, rfl⟩
          have sp1 := fun z => split_at hX HN2.out s2 s3 z
          have rs := fun z => reason_any st z
          have rz := reaB_size st
          generalize reaB st = RB at rs rz s4 s6
          have z1 : START.size ≤ 44 := by omega
          have z2 : 13 ≤ START.size := by omega
          have z3 : ¬ (START.size : Int) < 13 := by omega
          have q1 : (START.extract 0 9).toList = [72, 84, 84, 80, 47, 49, 46, 49, 32] := by rw [s5]; decide +kernel
          have Q1 := Lib.hid q1
          clear q1
          have q2 : ((START.extract 13 START.size).toList == RB.toList) = true := by rw [s6]; exact eq_self _
          clear s1 s2 s4 s5 s6 hA rz
          obtain ⟨S2, START2, t1, t2, t3, t4, t5⟩ := ask_facts hK
          rw [hK, t1] at g3
          obtain ⟨X2, hX2⟩ : ∃ X, S2 ++ (⟨#[109, 111, 114, 101]⟩ : ByteArray) = X := ⟨_, rfl⟩
          have sp2 := fun z => split_at hX2 HN2.out t2 t3 z
          have ln2 := fun z => line_any START2 z (by omega)
          rw [t5] at ln2
          simp only [ln_ok, tx_ls] at ln2
          clear t1 t2 t4 t5 hK
          go_wp2_with fail
          refine (g1 _ J.bel).mono ?_
          rintro e w2 ⟨rfl, F2⟩
          replace J := J.below F2
          clear F2 g1
          go_wp2_with fail
          refine (sp1 _).mono ?_
          rintro e w3 ⟨b1, c1, rfl, V, F3⟩
          replace J := J.below F3
          clear F3 sp1 hX
          go_upto_region 13 with (fail)
          refine wp_region_held (S := fun u => Below w3.heap.size w3 u) (by kernel_rfl) ?_
          change wpAnyH _ _ _ _ _ _ _ _ w3.drew
          have j0 : Below w3.heap.size w3 w3.drew := (Below.refl _ _).drew
          have sm : ∀ u, Below w3.heap.size w3 u → Calls Tryd.prog 14 #[.slice b1 n c1, .slice base n cap] u fun e w' => e = .returned (.bool true) ∧ Below u.heap.size u w' := fun u hb => SM.out b1 c1 u (V.below hb) (J.bel.trans (hb.mono J.bel.size))
          replace J : ∀ u, Below w3.heap.size w3 u → OuJ w u B m t := fun u hb => J.below hb
          clear V
          generalize w3.drew = w4 at j0 ⊢
          refine held_take 0 (.int .i64 0) rfl (by kernel_rfl) (by kernel_rfl) (by kernel_rfl) (fun _ _ _ h => h) (Or.inl ⟨by rfl, fun x j => by go_simp⟩) j0 (fun K hK => ?_)
          go_simp
          refine hK _ _ ?_
          clear hK K
          refine held_take 1 (.bool false) rfl (by kernel_rfl) (by kernel_rfl) (by kernel_rfl) (fun _ _ _ h => h) (Or.inl ⟨by rfl, fun x j => by go_simp⟩) j0 (fun K hK => ?_)
          go_simp
          refine hK _ _ ?_
          clear hK K
          refine held_take 2 (.bool false) rfl (by kernel_rfl) (by kernel_rfl) (by kernel_rfl) (fun _ _ _ h => h) (Or.inl ⟨by rfl, fun x j => by go_simp⟩) j0 (fun K hK => ?_)
          go_simp
          refine hK _ _ ?_
          clear hK K
          refine held_take 3 (.int .i64 S.size) rfl (by kernel_rfl) (by kernel_rfl) (by kernel_rfl) (fun _ _ _ h => h) (Or.inl ⟨by rfl, fun x j => by go_simp⟩) j0 (fun K hK => ?_)
          go_simp
          refine hK _ _ ?_
          clear hK K
          refine held_take 4 (.string S) rfl (by kernel_rfl) (by kernel_rfl) (by kernel_rfl) (fun _ _ _ h => h) (Or.inl ⟨by rfl, fun x j => by go_simp⟩) j0 (fun K hK => ?_)
          go_simp
          refine hK _ _ ?_
          clear hK K
          refine held_take 5 (.int .i64 S.size) rfl (by kernel_rfl) (by kernel_rfl) (by kernel_rfl) (fun _ _ _ h => h) (Or.inl ⟨by rfl, fun x j => by go_simp⟩) j0 (fun K hK => ?_)
          go_simp
          refine hK _ _ ?_
          clear hK K
          refine held_take 6 (.bool false) rfl (by kernel_rfl) (by kernel_rfl) (by kernel_rfl) (fun _ _ _ h => h) (Or.inl ⟨by rfl, fun x j => by go_simp⟩) j0 (fun K hK => ?_)
          go_simp
          refine hK _ _ ?_
          clear hK K
          refine held_take 7 (.bool false) rfl (by kernel_rfl) (by kernel_rfl) (by kernel_rfl) (fun _ _ _ h => h) (Or.inl ⟨by rfl, fun x j => by go_simp⟩) j0 (fun K hK => ?_)
          go_simp
          refine hK _ _ ?_
          clear hK K
          refine held_take 8 (.bool false) rfl (by kernel_rfl) (by kernel_rfl) (by kernel_rfl) (fun _ _ _ h => h) (Or.inl ⟨by rfl, fun x j => by go_simp⟩) j0 (fun K hK => ?_)
          go_simp
          refine hK _ _ ?_
          clear hK K
          refine held_take 9 (.slice b1 n c1) rfl (by kernel_rfl) (by kernel_rfl) (by kernel_rfl) (fun _ _ _ h => h) (Or.inl ⟨by rfl, fun x j => by go_simp⟩) j0 (fun K hK => ?_)
          go_simp
          refine hK _ _ ?_
          clear hK K
          refine held_take 10 (.slice base n cap) rfl (by kernel_rfl) (by kernel_rfl) (by kernel_rfl) (fun _ _ _ h => h) (Or.inl ⟨by rfl, fun x j => by go_simp⟩) j0 (fun K hK => ?_)
          go_simp
          refine hK _ _ ?_
          clear hK K
          refine held_one 11 (by kernel_rfl) (fun K hK => wpOp_in rfl rfl ?_)
          go_simp
          refine (sm _ j0).mono ?_
          rintro e u1 ⟨rfl, F1⟩
          have j1 := j0.trans (F1.mono j0.size)
          refine hK _ _ j1 ?_
          clear F1 j0 sm
          clear hK K
          refine held_take 12 (.bool false) rfl (by kernel_rfl) (by kernel_rfl) (by kernel_rfl) (fun _ _ _ h => h) (Or.inl ⟨by rfl, fun x j => by go_simp⟩) j1 (fun K hK => ?_)
          go_simp
          refine hK _ _ ?_
          clear hK K
          refine held_take 13 (.bool false) rfl (by kernel_rfl) (by kernel_rfl) (by kernel_rfl) (fun _ _ _ h => h) (Or.inl ⟨by rfl, fun x j => by go_simp⟩) j1 (fun K hK => ?_)
          go_simp
          refine hK _ _ ?_
          clear hK K
          refine held_take 14 (.bool false) rfl (by kernel_rfl) (by kernel_rfl) (by kernel_rfl) (fun _ _ _ h => h) (Or.inl ⟨by rfl, fun x j => by go_simp⟩) j1 (fun K hK => ?_)
          go_simp
          refine hK _ _ ?_
          clear hK K
          refine held_take 15 (.string START) rfl (by kernel_rfl) (by kernel_rfl) (by kernel_rfl) (fun _ _ _ h => h) (Or.inl ⟨by rfl, fun x j => by go_simp⟩) j1 (fun K hK => ?_)
          go_simp
          refine hK _ _ ?_
          clear hK K
          refine held_take 16 (.int .i64 START.size) rfl (by kernel_rfl) (by kernel_rfl) (by kernel_rfl) (fun _ _ _ h => h) (Or.inl ⟨by rfl, fun x j => by go_simp⟩) j1 (fun K hK => ?_)
          go_simp
          refine hK _ _ ?_
          clear hK K
          refine held_take 17 (.bool false) rfl (by kernel_rfl) (by kernel_rfl) (by kernel_rfl) (fun _ _ _ h => h) (Or.inl ⟨by rfl, fun x j => by go_simp⟩) j1 (fun K hK => ?_)
          go_simp
          refine hK _ _ ?_
          clear hK K
          refine held_take 18 (.bool false) rfl (by kernel_rfl) (by kernel_rfl) (by kernel_rfl) (fun _ _ _ h => h) (Or.inl ⟨by rfl, fun x j => by go_simp⟩) j1 (fun K hK => ?_)
          go_simp
          refine hK _ _ ?_
          clear hK K
          refine held_take 19 (.bool false) rfl (by kernel_rfl) (by kernel_rfl) (by kernel_rfl) (fun _ _ _ h => h) (Or.inl ⟨by rfl, fun x j => by go_simp⟩) j1 (fun K hK => ?_)
          go_simp
          refine hK _ _ ?_
          clear hK K
          refine held_take 20 (.string START) rfl (by kernel_rfl) (by kernel_rfl) (by kernel_rfl) (fun _ _ _ h => h) (Or.inl ⟨by rfl, fun x j => by go_simp⟩) j1 (fun K hK => ?_)
          go_simp
          refine hK _ _ ?_
          clear hK K
          refine held_take 21 (.string (START.extract 0 9)) rfl (by kernel_rfl) (by kernel_rfl) (by kernel_rfl) (fun _ _ _ h => h) (Or.inl ⟨by rfl, fun x j => by go_simp <;> (intro hx; omega)⟩) j1 (fun K hK => ?_)
          go_simp
          refine hK _ _ ?_
          clear hK K
          refine held_take 22 (.bool false) rfl (by kernel_rfl) (by kernel_rfl) (by kernel_rfl) (fun _ _ _ h => h) (Or.inl ⟨by rfl, fun x j => by go_simp <;> exact Q1.out⟩) j1 (fun K hK => ?_)
          go_simp
          refine hK _ _ ?_
          clear hK K
          refine held_take 23 (.bool false) rfl (by kernel_rfl) (by kernel_rfl) (by kernel_rfl) (fun _ _ _ h => h) (Or.inl ⟨by rfl, fun x j => by go_simp⟩) j1 (fun K hK => ?_)
          go_simp
          refine hK _ _ ?_
          clear hK K
          refine held_take 24 (.bool false) rfl (by kernel_rfl) (by kernel_rfl) (by kernel_rfl) (fun _ _ _ h => h) (Or.inl ⟨by rfl, fun x j => by go_simp⟩) j1 (fun K hK => ?_)
          go_simp
          refine hK _ _ ?_
          clear hK K
          refine held_take 25 (.string START) rfl (by kernel_rfl) (by kernel_rfl) (by kernel_rfl) (fun _ _ _ h => h) (Or.inl ⟨by rfl, fun x j => by go_simp⟩) j1 (fun K hK => ?_)
          go_simp
          refine hK _ _ ?_
          clear hK K
          refine held_take 26 (.string (START.extract 13 START.size)) rfl (by kernel_rfl) (by kernel_rfl) (by kernel_rfl) (fun _ _ _ h => h) (Or.inl ⟨by rfl, fun x j => by go_simp <;> (intro hx; omega)⟩) j1 (fun K hK => ?_)
          go_simp
          refine hK _ _ ?_
          clear hK K
          refine held_take 27 (.int .i64 st) rfl (by kernel_rfl) (by kernel_rfl) (by kernel_rfl) (fun _ _ _ h => h) (Or.inl ⟨by rfl, fun x j => by go_simp⟩) j1 (fun K hK => ?_)
          go_simp
          refine hK _ _ ?_
          clear hK K
          refine held_one 28 (by kernel_rfl) (fun K hK => wpOp_in rfl rfl ?_)
          go_simp
          refine (rs _).mono ?_
          rintro e u2 ⟨rfl, rfl⟩
          refine hK _ _ j1 ?_
          clear rs
          clear hK K
          refine held_take 29 (.bool false) rfl (by kernel_rfl) (by kernel_rfl) (by kernel_rfl) (fun _ _ _ h => h) (Or.inl ⟨by rfl, fun x j => by go_simp⟩) j1 (fun K hK => ?_)
          go_simp
          refine hK _ _ ?_
          clear hK K
          refine held_take 30 (.bool false) rfl (by kernel_rfl) (by kernel_rfl) (by kernel_rfl) (fun _ _ _ h => h) (Or.inl ⟨by rfl, fun x j => by go_simp⟩) j1 (fun K hK => ?_)
          go_simp
          refine hK _ _ ?_
          clear hK K
          refine wpAnyH_done (by kernel_rfl) ?_ _
          have J4 := J _ j1
          clear J j1
          have J := J4
          clear J4
          have c0 := J.c0
          have c1 := J.c1
          go_wp2_with fail
          refine (g3 _ J.bel).mono ?_
          rintro e w5 ⟨rfl, F5⟩
          replace J := J.below F5
          clear F5 g3 c0 c1
          go_wp2_with fail
          refine (sp2 _).mono ?_
          rintro e w6 ⟨b2, c2, rfl, V2, F6⟩
          replace J := J.below F6
          clear F6 sp2
          go_wp2_with fail
          refine (ln2 _).mono ?_
          rintro e w7 ⟨rfl, F7⟩
          replace V2 := V2.below F7
          replace J := J.below F7
          clear F7 ln2
          have sm := SM.out b2 c2 w7 V2 J.bel
          clear V2
          go_wp2_with fail
          refine sm.mono ?_
          rintro e w8 ⟨rfl, F8⟩
          replace J := J.below F8
          clear F8 sm
          have c0 := J.c0
          have c1 := J.c1
          have BE := J.bel
          have q1 := eq_self m
          have q2 := eq_self t
          clear J
          go_wp2
          go_ret
          exact ⟨rfl, BE⟩
        · obtain ⟨S, START, s1, s2, s3, s4, s5, s6⟩ := ans_facts hA
          rw [hA, s1] at g1
          obtain ⟨X, hX⟩ : ∃ X, S ++ (⟨#[109, 111, 114, 101]⟩ : ByteArray) = X := ⟨_, rfl⟩
          have sp1 := fun z => split_at hX HN2.out s2 s3 z
          have rs := fun z => reason_any st z
          have rz := reaB_size st
          generalize reaB st = RB at rs rz s4 s6
          have z1 : START.size ≤ 44 := by omega
          have z2 : 13 ≤ START.size := by omega
          have z3 : ¬ (START.size : Int) < 13 := by omega
          have q1 : (START.extract 0 9).toList = [72, 84, 84, 80, 47, 49, 46, 49, 32] := by rw [s5]; decide +kernel
          have Q1 := Lib.hid q1
          clear q1
          have q2 : ((START.extract 13 START.size).toList == RB.toList) = true := by rw [s6]; exact eq_self _
          clear s1 s2 s4 s5 s6 hA rz
          have i2 := ne_false hK
          generalize askS (ls m) (ls t) xs = KS at g3
          generalize askE (ls m) (ls t) xs = KE at g3 hK i2
          clear hK
          go_wp2_with fail
          refine (g1 _ J.bel).mono ?_
          rintro e w2 ⟨rfl, F2⟩
          replace J := J.below F2
          clear F2 g1
          go_wp2_with fail
          refine (sp1 _).mono ?_
          rintro e w3 ⟨b1, c1, rfl, V, F3⟩
          replace J := J.below F3
          clear F3 sp1 hX
          go_upto_region 13 with (fail)
          refine wp_region_held (S := fun u => Below w3.heap.size w3 u) (by kernel_rfl) ?_
          change wpAnyH _ _ _ _ _ _ _ _ w3.drew
          have j0 : Below w3.heap.size w3 w3.drew := (Below.refl _ _).drew
          have sm : ∀ u, Below w3.heap.size w3 u → Calls Tryd.prog 14 #[.slice b1 n c1, .slice base n cap] u fun e w' => e = .returned (.bool true) ∧ Below u.heap.size u w' := fun u hb => SM.out b1 c1 u (V.below hb) (J.bel.trans (hb.mono J.bel.size))
          replace J : ∀ u, Below w3.heap.size w3 u → OuJ w u B m t := fun u hb => J.below hb
          clear V
          generalize w3.drew = w4 at j0 ⊢
          refine held_take 0 (.int .i64 0) rfl (by kernel_rfl) (by kernel_rfl) (by kernel_rfl) (fun _ _ _ h => h) (Or.inl ⟨by rfl, fun x j => by go_simp⟩) j0 (fun K hK => ?_)
          go_simp
          refine hK _ _ ?_
          clear hK K
          refine held_take 1 (.bool false) rfl (by kernel_rfl) (by kernel_rfl) (by kernel_rfl) (fun _ _ _ h => h) (Or.inl ⟨by rfl, fun x j => by go_simp⟩) j0 (fun K hK => ?_)
          go_simp
          refine hK _ _ ?_
          clear hK K
          refine held_take 2 (.bool false) rfl (by kernel_rfl) (by kernel_rfl) (by kernel_rfl) (fun _ _ _ h => h) (Or.inl ⟨by rfl, fun x j => by go_simp⟩) j0 (fun K hK => ?_)
          go_simp
          refine hK _ _ ?_
          clear hK K
          refine held_take 3 (.int .i64 S.size) rfl (by kernel_rfl) (by kernel_rfl) (by kernel_rfl) (fun _ _ _ h => h) (Or.inl ⟨by rfl, fun x j => by go_simp⟩) j0 (fun K hK => ?_)
          go_simp
          refine hK _ _ ?_
          clear hK K
          refine held_take 4 (.string S) rfl (by kernel_rfl) (by kernel_rfl) (by kernel_rfl) (fun _ _ _ h => h) (Or.inl ⟨by rfl, fun x j => by go_simp⟩) j0 (fun K hK => ?_)
          go_simp
          refine hK _ _ ?_
          clear hK K
          refine held_take 5 (.int .i64 S.size) rfl (by kernel_rfl) (by kernel_rfl) (by kernel_rfl) (fun _ _ _ h => h) (Or.inl ⟨by rfl, fun x j => by go_simp⟩) j0 (fun K hK => ?_)
          go_simp
          refine hK _ _ ?_
          clear hK K
          refine held_take 6 (.bool false) rfl (by kernel_rfl) (by kernel_rfl) (by kernel_rfl) (fun _ _ _ h => h) (Or.inl ⟨by rfl, fun x j => by go_simp⟩) j0 (fun K hK => ?_)
          go_simp
          refine hK _ _ ?_
          clear hK K
          refine held_take 7 (.bool false) rfl (by kernel_rfl) (by kernel_rfl) (by kernel_rfl) (fun _ _ _ h => h) (Or.inl ⟨by rfl, fun x j => by go_simp⟩) j0 (fun K hK => ?_)
          go_simp
          refine hK _ _ ?_
          clear hK K
          refine held_take 8 (.bool false) rfl (by kernel_rfl) (by kernel_rfl) (by kernel_rfl) (fun _ _ _ h => h) (Or.inl ⟨by rfl, fun x j => by go_simp⟩) j0 (fun K hK => ?_)
          go_simp
          refine hK _ _ ?_
          clear hK K
          refine held_take 9 (.slice b1 n c1) rfl (by kernel_rfl) (by kernel_rfl) (by kernel_rfl) (fun _ _ _ h => h) (Or.inl ⟨by rfl, fun x j => by go_simp⟩) j0 (fun K hK => ?_)
          go_simp
          refine hK _ _ ?_
          clear hK K
          refine held_take 10 (.slice base n cap) rfl (by kernel_rfl) (by kernel_rfl) (by kernel_rfl) (fun _ _ _ h => h) (Or.inl ⟨by rfl, fun x j => by go_simp⟩) j0 (fun K hK => ?_)
          go_simp
          refine hK _ _ ?_
          clear hK K
          refine held_one 11 (by kernel_rfl) (fun K hK => wpOp_in rfl rfl ?_)
          go_simp
          refine (sm _ j0).mono ?_
          rintro e u1 ⟨rfl, F1⟩
          have j1 := j0.trans (F1.mono j0.size)
          refine hK _ _ j1 ?_
          clear F1 j0 sm
          clear hK K
          refine held_take 12 (.bool false) rfl (by kernel_rfl) (by kernel_rfl) (by kernel_rfl) (fun _ _ _ h => h) (Or.inl ⟨by rfl, fun x j => by go_simp⟩) j1 (fun K hK => ?_)
          go_simp
          refine hK _ _ ?_
          clear hK K
          refine held_take 13 (.bool false) rfl (by kernel_rfl) (by kernel_rfl) (by kernel_rfl) (fun _ _ _ h => h) (Or.inl ⟨by rfl, fun x j => by go_simp⟩) j1 (fun K hK => ?_)
          go_simp
          refine hK _ _ ?_
          clear hK K
          refine held_take 14 (.bool false) rfl (by kernel_rfl) (by kernel_rfl) (by kernel_rfl) (fun _ _ _ h => h) (Or.inl ⟨by rfl, fun x j => by go_simp⟩) j1 (fun K hK => ?_)
          go_simp
          refine hK _ _ ?_
          clear hK K
          refine held_take 15 (.string START) rfl (by kernel_rfl) (by kernel_rfl) (by kernel_rfl) (fun _ _ _ h => h) (Or.inl ⟨by rfl, fun x j => by go_simp⟩) j1 (fun K hK => ?_)
          go_simp
          refine hK _ _ ?_
          clear hK K
          refine held_take 16 (.int .i64 START.size) rfl (by kernel_rfl) (by kernel_rfl) (by kernel_rfl) (fun _ _ _ h => h) (Or.inl ⟨by rfl, fun x j => by go_simp⟩) j1 (fun K hK => ?_)
          go_simp
          refine hK _ _ ?_
          clear hK K
          refine held_take 17 (.bool false) rfl (by kernel_rfl) (by kernel_rfl) (by kernel_rfl) (fun _ _ _ h => h) (Or.inl ⟨by rfl, fun x j => by go_simp⟩) j1 (fun K hK => ?_)
          go_simp
          refine hK _ _ ?_
          clear hK K
          refine held_take 18 (.bool false) rfl (by kernel_rfl) (by kernel_rfl) (by kernel_rfl) (fun _ _ _ h => h) (Or.inl ⟨by rfl, fun x j => by go_simp⟩) j1 (fun K hK => ?_)
          go_simp
          refine hK _ _ ?_
          clear hK K
          refine held_take 19 (.bool false) rfl (by kernel_rfl) (by kernel_rfl) (by kernel_rfl) (fun _ _ _ h => h) (Or.inl ⟨by rfl, fun x j => by go_simp⟩) j1 (fun K hK => ?_)
          go_simp
          refine hK _ _ ?_
          clear hK K
          refine held_take 20 (.string START) rfl (by kernel_rfl) (by kernel_rfl) (by kernel_rfl) (fun _ _ _ h => h) (Or.inl ⟨by rfl, fun x j => by go_simp⟩) j1 (fun K hK => ?_)
          go_simp
          refine hK _ _ ?_
          clear hK K
          refine held_take 21 (.string (START.extract 0 9)) rfl (by kernel_rfl) (by kernel_rfl) (by kernel_rfl) (fun _ _ _ h => h) (Or.inl ⟨by rfl, fun x j => by go_simp <;> (intro hx; omega)⟩) j1 (fun K hK => ?_)
          go_simp
          refine hK _ _ ?_
          clear hK K
          refine held_take 22 (.bool false) rfl (by kernel_rfl) (by kernel_rfl) (by kernel_rfl) (fun _ _ _ h => h) (Or.inl ⟨by rfl, fun x j => by go_simp <;> exact Q1.out⟩) j1 (fun K hK => ?_)
          go_simp
          refine hK _ _ ?_
          clear hK K
          refine held_take 23 (.bool false) rfl (by kernel_rfl) (by kernel_rfl) (by kernel_rfl) (fun _ _ _ h => h) (Or.inl ⟨by rfl, fun x j => by go_simp⟩) j1 (fun K hK => ?_)
          go_simp
          refine hK _ _ ?_
          clear hK K
          refine held_take 24 (.bool false) rfl (by kernel_rfl) (by kernel_rfl) (by kernel_rfl) (fun _ _ _ h => h) (Or.inl ⟨by rfl, fun x j => by go_simp⟩) j1 (fun K hK => ?_)
          go_simp
          refine hK _ _ ?_
          clear hK K
          refine held_take 25 (.string START) rfl (by kernel_rfl) (by kernel_rfl) (by kernel_rfl) (fun _ _ _ h => h) (Or.inl ⟨by rfl, fun x j => by go_simp⟩) j1 (fun K hK => ?_)
          go_simp
          refine hK _ _ ?_
          clear hK K
          refine held_take 26 (.string (START.extract 13 START.size)) rfl (by kernel_rfl) (by kernel_rfl) (by kernel_rfl) (fun _ _ _ h => h) (Or.inl ⟨by rfl, fun x j => by go_simp <;> (intro hx; omega)⟩) j1 (fun K hK => ?_)
          go_simp
          refine hK _ _ ?_
          clear hK K
          refine held_take 27 (.int .i64 st) rfl (by kernel_rfl) (by kernel_rfl) (by kernel_rfl) (fun _ _ _ h => h) (Or.inl ⟨by rfl, fun x j => by go_simp⟩) j1 (fun K hK => ?_)
          go_simp
          refine hK _ _ ?_
          clear hK K
          refine held_one 28 (by kernel_rfl) (fun K hK => wpOp_in rfl rfl ?_)
          go_simp
          refine (rs _).mono ?_
          rintro e u2 ⟨rfl, rfl⟩
          refine hK _ _ j1 ?_
          clear rs
          clear hK K
          refine held_take 29 (.bool false) rfl (by kernel_rfl) (by kernel_rfl) (by kernel_rfl) (fun _ _ _ h => h) (Or.inl ⟨by rfl, fun x j => by go_simp⟩) j1 (fun K hK => ?_)
          go_simp
          refine hK _ _ ?_
          clear hK K
          refine held_take 30 (.bool false) rfl (by kernel_rfl) (by kernel_rfl) (by kernel_rfl) (fun _ _ _ h => h) (Or.inl ⟨by rfl, fun x j => by go_simp⟩) j1 (fun K hK => ?_)
          go_simp
          refine hK _ _ ?_
          clear hK K
          refine wpAnyH_done (by kernel_rfl) ?_ _
          have J4 := J _ j1
          clear J j1
          have J := J4
          clear J4
          have c0 := J.c0
          have c1 := J.c1
          go_wp2_with fail
          refine (g3 _ J.bel).mono ?_
          rintro e w5 ⟨rfl, F5⟩
          replace J := J.below F5
          clear F5 g3 c0 c1
          have BE := J.bel
          clear J
          go_wp2
          go_ret
          exact ⟨rfl, BE⟩
      · rcases Classical.em (askE (ls m) (ls t) xs = 0) with hK | hK
        · have i1 := ne_false hA
          generalize ansS st xs = AS at g1
          generalize ansE st xs = AE at g1 hA i1
          clear hA
          obtain ⟨S2, START2, t1, t2, t3, t4, t5⟩ := ask_facts hK
          rw [hK, t1] at g3
          obtain ⟨X2, hX2⟩ : ∃ X, S2 ++ (⟨#[109, 111, 114, 101]⟩ : ByteArray) = X := ⟨_, rfl⟩
          have sp2 := fun z => split_at hX2 HN2.out t2 t3 z
          have ln2 := fun z => line_any START2 z (by omega)
          rw [t5] at ln2
          simp only [ln_ok, tx_ls] at ln2
          clear t1 t2 t4 t5 hK
          go_wp2_with fail
          refine (g1 _ J.bel).mono ?_
          rintro e w2 ⟨rfl, F2⟩
          replace J := J.below F2
          clear F2 g1
          have c0 := J.c0
          have c1 := J.c1
          go_wp2_with fail
          refine (g3 _ J.bel).mono ?_
          rintro e w5 ⟨rfl, F5⟩
          replace J := J.below F5
          clear F5 g3 c0 c1
          go_wp2_with fail
          refine (sp2 _).mono ?_
          rintro e w6 ⟨b2, c2, rfl, V2, F6⟩
          replace J := J.below F6
          clear F6 sp2
          go_wp2_with fail
          refine (ln2 _).mono ?_
          rintro e w7 ⟨rfl, F7⟩
          replace V2 := V2.below F7
          replace J := J.below F7
          clear F7 ln2
          have sm := SM.out b2 c2 w7 V2 J.bel
          clear V2
          go_wp2_with fail
          refine sm.mono ?_
          rintro e w8 ⟨rfl, F8⟩
          replace J := J.below F8
          clear F8 sm
          have c0 := J.c0
          have c1 := J.c1
          have BE := J.bel
          have q1 := eq_self m
          have q2 := eq_self t
          clear J
          go_wp2
          go_ret
          exact ⟨rfl, BE⟩
        · have i1 := ne_false hA
          generalize ansS st xs = AS at g1
          generalize ansE st xs = AE at g1 hA i1
          clear hA
          have i2 := ne_false hK
          generalize askS (ls m) (ls t) xs = KS at g3
          generalize askE (ls m) (ls t) xs = KE at g3 hK i2
          clear hK
          go_wp2_with fail
          refine (g1 _ J.bel).mono ?_
          rintro e w2 ⟨rfl, F2⟩
          replace J := J.below F2
          clear F2 g1
          have c0 := J.c0
          have c1 := J.c1
          go_wp2_with fail
          refine (g3 _ J.bel).mono ?_
          rintro e w5 ⟨rfl, F5⟩
          replace J := J.below F5
          clear F5 g3 c0 c1
          have BE := J.bel
          clear J
          go_wp2
          go_ret
          exact ⟨rfl, BE⟩
theorem walkOutletBack {v : Value} (st : Int) (y : ByteArray × ByteArray) (xs : List Fi.Fd) (w : World) (w0 : (Lit.int .i64 st).wf = true) (hy : y.1.size ≤ 140737488355328 ∧ y.2.size ≤ 140737488355328) (hv : FdsAt w v xs) (hl : xs.length ≤ 9223372036854775807) (ho : ∀ y ∈ xs, y.Ok) (hr : Fi.Reach xs) :
    Calls Tryd.prog 4 #[.int .i64 st, .agg #[.string y.1, .string y.2], v] w fun e w' => e = .returned (.bool true) ∧ Below w.heap.size w w' := by
  by_cases h : 60 < xs.length ∨ 8192 < y.1.size ∨ 8192 < y.2.size
  · exact bigOutletBack w v xs st y.1 y.2 hv hl hy.1 hy.2 h
  · exact mainOutletBack w v xs st y.1 y.2 hv (by omega) (by omega) (by omega) hr
end Go.Proofs.YtdldoklkenhopaaDoor.Ou
