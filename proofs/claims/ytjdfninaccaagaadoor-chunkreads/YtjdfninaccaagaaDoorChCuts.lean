/-
  The walk of ChunkCuts.
-/
import Derived.Test.YtjdfninaccaagaaDoorChAwake
namespace Go.Proofs.YtjdfninaccaagaaDoor.Ch
open Go.RowKit Go.PlainAid
open Hx Fi
set_option linter.unusedVariables false
set_option maxRecDepth 20000
set_option linter.unusedSimpArgs false

theorem wrap_u64_nonneg (x : Int) : 0 ≤ IntKind.u64.wrap x := by rw [IntKind.wrap_u64]; omega
theorem cut_num (x : Int) (n : Nat) (h : n ≤ 1000000) : ∃ k : Nat, wrap64 ((IntKind.u64.wrap x).tmod ((n : Int) + 1)) = (k : Int) ∧ k ≤ n := by
  have h0 : 0 ≤ IntKind.u64.wrap x := wrap_u64_nonneg x
  rw [Int.tmod_eq_emod_of_nonneg h0]
  have h1 := Int.emod_nonneg (IntKind.u64.wrap x) (show ((n : Int) + 1) ≠ 0 by omega)
  have h2 := Int.emod_lt_of_pos (IntKind.u64.wrap x) (show 0 < (n : Int) + 1 by omega)
  refine ⟨(IntKind.u64.wrap x % ((n : Int) + 1)).toNat, ?_, by omega⟩
  generalize IntKind.u64.wrap x % ((n : Int) + 1) = q at h1 h2
  unfold wrap64; omega
theorem run_un (most : Nat) (l : List UInt8) : (run most init l).u.length = (run most init l).n := by
  obtain ⟨v, h1, h2⟩ := run_grows (most := most) l init
  rw [h1, h2]; simp [init]
theorem str_eq (t : ByteArray) : (t.toList == t.toList) = true := by rw [beq_iff_eq]
/-- how much was read in all -/
theorem run_small (most : Nat) : ∀ (l : List UInt8) (s : CS), (run most s l).u.length ≤ s.u.length + l.length ∧ (run most s l).md.rest.length ≤ s.md.rest.length + l.length
  | [], s => by rw [run_nil]; simp
  | b :: l, s => by
    obtain ⟨h1, h2⟩ := run_small most l (stepB most s b)
    rw [run_cons]
    have hs : (stepB most s b).u.length ≤ s.u.length + 1 ∧ (stepB most s b).md.rest.length ≤ s.md.rest.length + 1 := by
      obtain ⟨md, n, u⟩ := s
      cases md with
      | data k =>
        unfold stepB
        simp only [List.length_append, List.length_singleton]
        refine ⟨Nat.le_refl _, ?_⟩
        by_cases c : k ≤ 1
        · rw [if_pos c]; exact Nat.zero_le _
        · rw [if_neg c]; exact Nat.zero_le _
      | line acc =>
        unfold stepB
        simp only
        by_cases c : b = 10
        · rw [if_pos c]; exact ⟨by simp, by rw [show (CS.md ⟨endL most n acc, n, u⟩) = endL most n acc from rfl, md_rest_line]; simp⟩
        · rw [if_neg c]
          by_cases c2 : 255 ≤ acc.length
          · rw [if_pos c2]; exact ⟨by simp, by simp [Md.rest]⟩
          · rw [if_neg c2]; exact ⟨by simp, by simp [Md.rest]⟩
      | trail acc k =>
        unfold stepB
        simp only
        by_cases c : b = 10
        · rw [if_pos c]; exact ⟨by simp, by rw [show (CS.md ⟨endT k acc, n, u⟩) = endT k acc from rfl, md_rest_trail]; simp⟩
        · rw [if_neg c]
          by_cases c2 : 255 ≤ acc.length
          · rw [if_pos c2]; exact ⟨by simp, by simp [Md.rest]⟩
          · rw [if_neg c2]; exact ⟨by simp, by simp [Md.rest]⟩
      | cr =>
        unfold stepB
        simp only
        by_cases c : b = 13
        · rw [if_pos c]; exact ⟨by simp, by simp [Md.rest]⟩
        · rw [if_neg c]; exact ⟨by simp, by simp [Md.rest]⟩
      | lf =>
        unfold stepB
        simp only
        by_cases c : b = 10
        · rw [if_pos c]; exact ⟨by simp, by simp [Md.rest]⟩
        · rw [if_neg c]; exact ⟨by simp, by simp [Md.rest]⟩
      | done r => exact ⟨by simp [stepB], by simp [stepB, Md.rest]⟩
      | err e => exact ⟨by simp [stepB], by simp [stepB, Md.rest]⟩
    simp only [List.length_cons]
    omega
theorem int_bd {n : Int} (h : (Lit.int .i64 n).wf = true) : -9223372036854775808 ≤ n ∧ n ≤ 9223372036854775807 := by
  simp [Lit.wf] at h
  have e1 : IntKind.i64.min = -9223372036854775808 := by decide
  have e2 : IntKind.i64.max = 9223372036854775807 := by decide
  omega
set_option maxRecDepth 100000 in
set_option maxHeartbeats 8000000 in
theorem walkCuts (s : ByteArray) (at_ most : Int) (w : World) (w0 : s.size ≤ maxLen) (w1 : (Lit.int .i64 at_).wf = true) (w2 : (Lit.int .i64 most).wf = true) :
    Calls Tryd.prog 5 #[.string s, .int .i64 at_, .int .i64 most] w fun e w' => e = .returned (.bool true) ∧ Below w.heap.size w w' := by
  unfold maxLen at w0
  obtain ⟨a1, a2⟩ : -9223372036854775808 ≤ at_ ∧ at_ ≤ 9223372036854775807 := int_bd w1
  obtain ⟨m1, m2⟩ : -9223372036854775808 ≤ most ∧ most ≤ 9223372036854775807 := int_bd w2
  clear w1 w2
  by_cases hs : 2048 < s.size
  · have i1 : (2048 : Int) < (s.size : Int) := by omega
    go_enter Tryd.func5, Tryd.ntmps5
    go_wp2_with fail
    refine (awake_any _).mono ?_
    rintro e wa ⟨rfl, ba⟩
    go_wp2
    go_ret
    exact ⟨rfl, ba⟩
  · have hs2 : s.size ≤ 2048 := by omega
    have i1 : ¬ (2048 : Int) < (s.size : Int) := by omega
    obtain ⟨k, hk, hk2⟩ := cut_num at_ s.size (by omega)
    clear hs
    go_enter Tryd.func5, Tryd.ntmps5
    go_wp2_with fail
    refine (awake_any _).mono ?_
    rintro e wa ⟨rfl, ba⟩
    have O0 := (Own.none w).below ba
    clear ba
    obtain ⟨M, hM⟩ : ∃ M, M = most.toNat := ⟨_, rfl⟩
    have hMb : (M : Int) ≤ 9223372036854775807 := by omega
    have n0 : ∀ (L : List Ob) (w1 : World), Own w w1 L → Calls Tryd.prog 8 #[.int .i64 most] w1 fun e w' => ∃ p, e = .returned (.pointer (some ⟨p, 0, none⟩)) ∧ Own w w' (L ++ [⟨p, M, init⟩]) := fun L w1 h => by rw [hM]; exact own_new h most m1 m2
    have HM := Lib.hid hM
    have HN := Lib.hid n0
    have HMb := Lib.hid hMb
    clear hM n0 hMb
    go_wp2_with fail
    refine (HN.out _ _ O0).mono ?_
    rintro e w1 ⟨pa, rfl, O1⟩
    have O1 : Own w w1 [⟨pa, M, init⟩] := O1
    clear O0
    go_wp2_with fail
    refine (HN.out _ _ O1).mono ?_
    rintro e w2 ⟨pb, rfl, O2⟩
    have O2 : Own w w2 [⟨pa, M, init⟩, ⟨pb, M, init⟩] := O2
    clear O1
    go_wp2_with fail
    refine (HN.out _ _ O2).mono ?_
    rintro e w3 ⟨pc, rfl, O3⟩
    have O3 : Own w w3 [⟨pa, M, init⟩, ⟨pb, M, init⟩, ⟨pc, M, init⟩] := O3
    clear O2 HN
    have HS2 := Lib.hid hs2
    have ca := own_add O3 0 (p := pa) (most := M) (s := init) rfl (init_ok M) HMb.out s (by omega) (by show 0 + s.size ≤ _; omega) (by show 0 + s.size ≤ _; omega)
    go_wp2_with fail
    refine ca.mono ?_
    rintro e w4 ⟨rfl, O4⟩
    have O4 : Own w w4 [⟨pa, M, run M init (ls s)⟩, ⟨pb, M, init⟩, ⟨pc, M, init⟩] := O4
    clear ca O3
    obtain ⟨R, hR⟩ : ∃ R, run M init (ls s) = R := ⟨_, rfl⟩
    rw [hR] at O4 ⊢
    obtain ⟨eR, he⟩ : ∃ eR, R.md.error = eR := ⟨_, rfl⟩
    rw [he]
    have HR := Lib.hid hR
    have HE := Lib.hid he
    have k1 : (k : Int) ≤ (s.size : Int) := by omega
    have et : ls (s.extract 0 k) = (ls s).take k := by rw [ls_extract]; simp
    have ed : ls (s.extract k s.size) = (ls s).drop k := by rw [ls_extract]; exact List.take_of_length_le (by rw [List.length_drop, ls_len]; exact Nat.le_refl _)
    have ez : (s.extract 0 k).size ≤ s.size := by rw [ByteArray.size_extract]; omega
    have ez2 : (s.extract k s.size).size ≤ s.size := by rw [ByteArray.size_extract]; omega
    have cb := own_add O4 1 (p := pb) (most := M) (s := init) rfl (init_ok M) HMb.out (s.extract 0 k) (by omega) (by show 0 + (s.extract 0 k).size ≤ _; omega) (by show 0 + (s.extract 0 k).size ≤ _; omega)
    rw [et] at cb
    clear hR he
    go_wp2_with fail
    refine cb.mono ?_
    rintro e w5 ⟨rfl, O5⟩
    have O5 : Own w w5 [⟨pa, M, R⟩, ⟨pb, M, run M init ((ls s).take k)⟩, ⟨pc, M, init⟩] := O5
    clear cb O4
    have okb : (run M init ((ls s).take k)).Ok M := (init_ok M).run
    have smb := run_small M ((ls s).take k) init
    have tl : ((ls s).take k).length ≤ s.size := by rw [List.length_take, ls_len]; omega
    have z0 : init.u.length = 0 := rfl
    have z1 : init.md.rest.length = 0 := rfl
    have cb := own_add O5 1 (p := pb) (most := M) (s := run M init ((ls s).take k)) rfl okb HMb.out (s.extract k s.size) (by omega) (by omega) (by omega)
    rw [ed, ← run_append, List.take_append_drop, HR.out, HE.out] at cb
    clear okb smb tl z0 z1 ez ez2 et ed
    go_wp2_with fail
    refine cb.mono ?_
    rintro e w6 ⟨rfl, O6⟩
    have O6 : Own w w6 [⟨pa, M, R⟩, ⟨pb, M, R⟩, ⟨pc, M, init⟩] := O6
    clear cb O5
    have O6' := Lib.hid O6
    clear O6 k1 hk hk2 w0 a1 a2
    have M1 := Lib.hid m1
    have M2 := Lib.hid m2
    clear m1 m2
    go_wp2_with fail
    go_loopw [13, 14] (fun g i wr => ∃ (j : Nat) (ej : Int), j ≤ s.size ∧ i = .int .i64 j ∧ g = .int .i64 ej ∧ Hid ((run M init ((ls s).take j)).md.error = ej) ∧ Own w wr [⟨pa, M, R⟩, ⟨pb, M, R⟩, ⟨pc, M, run M init ((ls s).take j)⟩]) (fun _ i _ => s.size - (intOf i).toNat)
    case atStart => exact ⟨0, 0, Nat.zero_le _, rfl, rfl, Lib.hid rfl, O6'.out⟩
    case round =>
      clear O6'
      obtain ⟨j, ej, hj, rfl, rfl, HJ, O7⟩ := hrel
      by_cases hlt : j < s.size
      · have l1 : (j : Int) < (s.size : Int) := by omega
        obtain ⟨b, gb, eb, -, etk, -⟩ := get_ls hlt
        have e1 : ls (s.extract j (j + 1)) = [b] := by
          rw [ls_extract, show j + 1 - j = 1 by omega]
          have hd : (ls s).drop j = b :: (ls s).drop (j + 1) := by
            obtain ⟨c, gc, -, -, -, dc⟩ := get_ls hlt
            rw [gb] at gc
            rw [Option.some.inj gc]; exact dc
          rw [hd]; rfl
        have okc : (run M init ((ls s).take j)).Ok M := (init_ok M).run
        have smc := run_small M ((ls s).take j) init
        have tl : ((ls s).take j).length ≤ s.size := by rw [List.length_take, ls_len]; omega
        have z0 : init.u.length = 0 := rfl
        have z1 : init.md.rest.length = 0 := rfl
        have es : (s.extract j (j + 1)).size ≤ 1 := by rw [ByteArray.size_extract]; omega
        have hs3 := HS2.out
        have cc := own_add O7 2 (p := pc) (most := M) (s := run M init ((ls s).take j)) rfl okc HMb.out (s.extract j (j + 1)) (by omega) (by omega) (by omega)
        rw [e1, ← run_append, ← etk] at cc
        have slj : ∀ w, (Instr.slice 9 (.string s) (some (.int .i64 (j : Int))) (some (.int .i64 ((j : Int) + 1))) none).run Tryd.prog w = .ok (.string (s.extract j (j + 1))) w := fun w => by
          have h := run_slice_string (P := Tryd.prog) (w := w) 9 s .i64 .i64 (j : Int) ((j : Int) + 1) Tryd.underlying9 (by omega) (by omega) (by omega)
          rw [show ((j : Int) + 1).toNat = j + 1 by omega, show ((j : Int)).toNat = j by omega] at h
          exact h
        obtain ⟨en, hen⟩ : ∃ en, (run M init ((ls s).take (j + 1))).md.error = en := ⟨_, rfl⟩
        rw [hen] at cc
        have HEN := Lib.hid hen
        clear okc smc tl z0 z1 es e1 etk gb eb hs3 hen HJ
        go_wp2_with fail
        refine cc.mono ?_
        rintro e w7 ⟨rfl, O8⟩
        have O8 : Own w w7 [⟨pa, M, R⟩, ⟨pb, M, R⟩, ⟨pc, M, run M init ((ls s).take (j + 1))⟩] := O8
        clear cc O7 slj
        go_wp2
        go_roundw
        case rel => exact ⟨j + 1, en, by omega, by go_num, rfl, HEN, O8⟩
        case measure => simp [intOf]; omega
      · have l1 : ¬ (j : Int) < (s.size : Int) := by omega
        have et : (ls s).take j = ls s := List.take_of_length_le (by rw [ls_len]; omega)
        rw [et, HR.out] at O7
        obtain rfl : eR = ej := by rw [← HJ.out, et, HR.out, HE.out]
        have okR : R.Ok M := by rw [← HR.out]; exact (init_ok M).run
        have un : R.u.length = R.n := by rw [← HR.out]; exact run_un M (ls s)
        have nM : (R.n : Int) ≤ (M : Int) := by have := okR.n; omega
        clear okR et l1
        have dA := own_done O7 0 (p := pa) (most := M) (s := R) rfl
        have dB := own_done O7 1 (p := pb) (most := M) (s := R) rfl
        have dC := own_done O7 2 (p := pc) (most := M) (s := R) rfl
        have sA := own_size O7 0 (p := pa) (most := M) (s := R) rfl
        have sB := own_size O7 1 (p := pb) (most := M) (s := R) rfl
        have sC := own_size O7 2 (p := pc) (most := M) (s := R) rfl
        have q1 : (eR != eR) = false := by simp
        generalize R.md.isDone = dn at dA dB dC
        have q2 : (dn != dn) = false := by simp
        have q3 : ((R.n : Int) != (R.n : Int)) = false := by simp
        go_wp2_with fail
        refine dA.mono ?_
        rintro e w' ⟨rfl, rfl⟩
        go_wp2_with fail
        refine dB.mono ?_
        rintro e w' ⟨rfl, rfl⟩
        clear dB
        go_wp2_with fail
        refine dA.mono ?_
        rintro e w' ⟨rfl, rfl⟩
        clear dA
        go_wp2_with fail
        refine dC.mono ?_
        rintro e w' ⟨rfl, rfl⟩
        clear dC
        go_wp2_with fail
        refine sA.mono ?_
        rintro e w' ⟨rfl, rfl⟩
        go_wp2_with fail
        refine sB.mono ?_
        rintro e w' ⟨rfl, rfl⟩
        clear sB
        go_wp2_with fail
        refine sA.mono ?_
        rintro e w' ⟨rfl, rfl⟩
        clear sA
        go_wp2_with fail
        refine sC.mono ?_
        rintro e w' ⟨rfl, rfl⟩
        clear sC
        have tA := own_take O7 0 (p := pa) (most := M) (s := R) rfl
        obtain ⟨T, hT⟩ : ∃ T, tx R.u = T := ⟨_, rfl⟩
        rw [hT] at tA
        have tz : (T.size : Int) = (R.n : Int) := by rw [← hT, tx_size, un]
        have HT := Lib.hid hT
        have sT := str_eq T
        clear hT
        go_wp2_with fail
        refine tA.mono ?_
        rintro e w8 ⟨rfl, O8⟩
        have O8 : Own w w8 [⟨pa, M, taken R⟩, ⟨pb, M, R⟩, ⟨pc, M, R⟩] := O8
        clear tA O7
        have tB := own_take O8 1 (p := pb) (most := M) (s := R) rfl
        rw [HT.out] at tB
        go_wp2_with fail
        refine tB.mono ?_
        rintro e w9 ⟨rfl, O9⟩
        have O9 : Own w w9 [⟨pa, M, taken R⟩, ⟨pb, M, taken R⟩, ⟨pc, M, R⟩] := O9
        clear tB O8
        have tC := own_take O9 2 (p := pc) (most := M) (s := R) rfl
        rw [HT.out] at tC
        go_wp2_with fail
        refine tC.mono ?_
        rintro e w10 ⟨rfl, O10⟩
        have O10 : Own w w10 [⟨pa, M, taken R⟩, ⟨pb, M, taken R⟩, ⟨pc, M, taken R⟩] := O10
        clear tC O9
        have sA := own_size O10 0 (p := pa) (most := M) (s := taken R) rfl
        rw [show (taken R).n = R.n from rfl] at sA
        have q4 : ((T.size : Int) == (R.n : Int)) = true := by rw [tz, beq_iff_eq]
        go_wp2_with fail
        refine sA.mono ?_
        rintro e w' ⟨rfl, rfl⟩
        have m1 := M1.out
        have m2 := M2.out
        have hM := HM.out
        have nz : (0 : Int) ≤ (R.n : Int) := by omega
        have nm : (R.n : Int) ≤ (M : Int) := nM
        have q5 : most < 0 → (R.n : Int) ≤ 0 := fun h => by omega
        have q6 : ¬ most < 0 → (R.n : Int) ≤ most := fun h => by omega
        have bel := O10.bel
        have rA := own_rest O10 0 (p := pa) (most := M) (s := taken R) rfl
        have rB := own_rest O10 1 (p := pb) (most := M) (s := taken R) rfl
        have rC := own_rest O10 2 (p := pc) (most := M) (s := taken R) rfl
        rw [show (taken R).md = R.md from rfl] at rA rB rC
        generalize tx R.md.rest = U at rA rB rC
        have sU := str_eq U
        clear O10 hM un nM nm nz tz
        by_cases hneg : most < 0
        · by_cases herr : eR = 0
          · have q7 := q5 hneg
            clear q5 q6 m1 m2
            go_wp2_with fail
            refine sA.mono ?_
            rintro e w' ⟨rfl, rfl⟩
            clear sA
            have g0 : (eR != 0) = false := by rw [herr]; rfl
            go_wp2_with fail
            refine rA.mono ?_
            rintro e w' ⟨rfl, rfl⟩
            go_wp2_with fail
            refine rB.mono ?_
            rintro e w' ⟨rfl, rfl⟩
            clear rB
            go_wp2_with fail
            refine rA.mono ?_
            rintro e w' ⟨rfl, rfl⟩
            clear rA
            go_wp2_with fail
            refine rC.mono ?_
            rintro e w' ⟨rfl, rfl⟩
            clear rC
            go_wp2
            go_ret
            exact ⟨rfl, bel⟩
          · have q7 := q5 hneg
            clear q5 q6 m1 m2
            go_wp2_with fail
            refine sA.mono ?_
            rintro e w' ⟨rfl, rfl⟩
            clear sA
            have g0 : (eR != 0) = true := by rw [bne_iff_ne]; exact herr
            go_wp2
            go_ret
            exact ⟨rfl, bel⟩
        · by_cases herr : eR = 0
          · have q7 := q6 hneg
            clear q5 q6 m1 m2
            go_wp2_with fail
            refine sA.mono ?_
            rintro e w' ⟨rfl, rfl⟩
            clear sA
            have g0 : (eR != 0) = false := by rw [herr]; rfl
            go_wp2_with fail
            refine rA.mono ?_
            rintro e w' ⟨rfl, rfl⟩
            go_wp2_with fail
            refine rB.mono ?_
            rintro e w' ⟨rfl, rfl⟩
            clear rB
            go_wp2_with fail
            refine rA.mono ?_
            rintro e w' ⟨rfl, rfl⟩
            clear rA
            go_wp2_with fail
            refine rC.mono ?_
            rintro e w' ⟨rfl, rfl⟩
            clear rC
            go_wp2
            go_ret
            exact ⟨rfl, bel⟩
          · have q7 := q6 hneg
            clear q5 q6 m1 m2
            go_wp2_with fail
            refine sA.mono ?_
            rintro e w' ⟨rfl, rfl⟩
            clear sA
            have g0 : (eR != 0) = true := by rw [bne_iff_ne]; exact herr
            go_wp2
            go_ret
            exact ⟨rfl, bel⟩
end Go.Proofs.YtjdfninaccaagaaDoor.Ch
