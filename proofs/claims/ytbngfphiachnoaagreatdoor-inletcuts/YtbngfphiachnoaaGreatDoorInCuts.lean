/-
  The walk of InletCuts.
-/
import Derived.Test.YtbngfphiachnoaaGreatDoorInAll
import Derived.Test.YtbngfphiachnoaaGreatDoorInAwake
import Derived.Test.YtbngfphiachnoaaGreatDoorInRd
namespace Go.Proofs.YtbngfphiachnoaaGreatDoor.In
open Go.RowKit Go.PlainAid
open Hx Fi Ch
set_option linter.unusedVariables false
set_option maxRecDepth 20000
set_option linter.unusedSimpArgs false

theorem wrap_u64_pos (x : Int) : 0 ≤ IntKind.u64.wrap x := by rw [IntKind.wrap_u64]; omega
theorem cut_at (x : Int) (n : Nat) (h : n ≤ 1000000) : ∃ k : Nat, wrap64 ((IntKind.u64.wrap x).tmod ((n : Int) + 1)) = (k : Int) ∧ k ≤ n := by
  have h0 : 0 ≤ IntKind.u64.wrap x := wrap_u64_pos x
  rw [Int.tmod_eq_emod_of_nonneg h0]
  have h1 := Int.emod_nonneg (IntKind.u64.wrap x) (show ((n : Int) + 1) ≠ 0 by omega)
  have h2 := Int.emod_lt_of_pos (IntKind.u64.wrap x) (show 0 < (n : Int) + 1 by omega)
  refine ⟨(IntKind.u64.wrap x % ((n : Int) + 1)).toNat, ?_, by omega⟩
  generalize IntKind.u64.wrap x % ((n : Int) + 1) = q at h1 h2
  unfold wrap64; omega
theorem int_lim {n : Int} (h : (Lit.int .i64 n).wf = true) : -9223372036854775808 ≤ n ∧ n ≤ 9223372036854775807 := by
  simp [Lit.wf] at h
  have e1 : IntKind.i64.min = -9223372036854775808 := by decide
  have e2 : IntKind.i64.max = 9223372036854775807 := by decide
  omega
/-- every request that came has few fields -/
theorem all_few : ∀ (k : Nat) (l : List UInt8), l.length ≤ k → ∀ q ∈ (allF l).qs, Short q.fs := by
  intro k
  induction k with
  | zero =>
    intro l hl
    cases hq : rdF l with
    | more => rw [all_more hq]; simp
    | bad st => rw [all_bad hq]; simp
    | ok q n => have := rd_pos hq; omega
  | succ k ih =>
    intro l hl
    cases hq : rdF l with
    | more => rw [all_more hq]; simp
    | bad st => rw [all_bad hq]; simp
    | ok q n =>
      have hp := rd_pos hq
      have h2 := ih (l.drop n) (by rw [List.length_drop]; omega)
      rw [all_ok hq]
      intro x hx
      rcases List.mem_cons.1 hx with rfl | hx
      · exact rd_short2 hq
      · exact h2 x hx
theorem count_le (l : List UInt8) : (allF l).qs.length ≤ l.length ∧ (allF l).rest.length ≤ l.length := by
  have := all_count l.length l (Nat.le_refl _)
  omega
theorem fst_len {es : List El} {qs : List Rq} (h : es.map Prod.fst = qs) : es.length = qs.length := by rw [← h, List.length_map]
theorem fst_at {es : List El} {qs : List Rq} (h : es.map Prod.fst = qs) {k : Nat} {q : Rq} (hq : qs[k]? = some q) : ∃ f, es[k]? = some (q, f) := by
  rw [← h, List.getElem?_map] at hq
  cases he : es[k]? with
  | none => rw [he] at hq; cases hq
  | some e =>
    rw [he] at hq
    obtain rfl := Option.some.inj hq
    exact ⟨e.2, rfl⟩
theorem own_loads {w0 w : World} {Z0 : Nat → Prop} {L : List Thing} (h : Owns w0 Z0 w L) (i : Nat) {a : Addr} {n c : Nat} {es : List El} (hi : L[i]? = some (lsT (.slice (some a) n c) es)) {k : Nat} {q : Rq} {f : Value} (he : es[k]? = some (q, f)) : Loads Tryz.prog w 30 (a.add (k * 4)) (rqV q f) ∧ FdsAt w f q.fs := by
  obtain ⟨o, cap, e, A⟩ := own_at h i hi
  injection e with e1 e2 e3
  subst e1
  obtain ⟨b, eb, hl, hf, _⟩ := A k (q, f) he
  injection eb with eb
  subst eb
  exact ⟨hl, hf⟩
theorem own_base {w0 w : World} {Z0 : Nat → Prop} {L : List Thing} (h : Owns w0 Z0 w L) (i : Nat) {o : Option Addr} {n c : Nat} {es : List El} (hi : L[i]? = some (lsT (.slice o n c) es)) {k : Nat} {e : El} (he : es[k]? = some e) : ∃ a, o = some a := by
  obtain ⟨o2, cap, e2, A⟩ := own_at h i hi
  injection e2 with e1 _ _
  obtain ⟨b, eb, _⟩ := A k e he
  exact ⟨b, by rw [e1, eb]⟩
/-- where the bytes, one by one, stand -/
structure CInv (wa wr : World) (pc : Nat) (s : ByteArray) (T3 T4 : Thing) (v : Value) (zs : List El) (e : Int) (j : Nat) : Prop where
  hj : j ≤ s.size
  st : (allF ((ls s).take j)).st = e
  qs : zs.map Prod.fst = (allF ((ls s).take j)).qs
  own : Owns wa noZ wr [noT, noT, inT pc (allF ((ls s).take j)).rest e, T3, T4, lsT v zs, noT]
theorem CInv.last {wa wr : World} {pc : Nat} {s : ByteArray} {T3 T4 : Thing} {v : Value} {zs : List El} {e : Int} {j : Nat} (h : CInv wa wr pc s T3 T4 v zs e j) (hn : ¬ (j < s.size ∧ e = 0)) : e = (allF (ls s)).st ∧ zs.map Prod.fst = (allF (ls s)).qs := by
  by_cases hlt : j < s.size
  · have he : (allF ((ls s).take j)).st ≠ 0 := by rw [h.st]; exact fun x => hn ⟨hlt, x⟩
    obtain ⟨a, b⟩ := all_cut_bad ((ls s).take j) ((ls s).drop j) he
    rw [List.take_append_drop] at a b
    exact ⟨by rw [b, h.st], by rw [a, h.qs]⟩
  · have et : (ls s).take j = ls s := List.take_of_length_le (by rw [ls_len]; omega)
    have h1 := h.st
    have h2 := h.qs
    rw [et] at h1 h2
    exact ⟨h1.symm, h2⟩
set_option maxRecDepth 200000 in
set_option maxHeartbeats 40000000 in
theorem walkCuts (s : ByteArray) (at_ : Int) (w : World) (w0 : s.size ≤ maxLen) (w1 : (Lit.int .i64 at_).wf = true) :
    Calls Tryz.prog 5 #[.string s, .int .i64 at_] w fun e w' => e = .returned (.bool true) ∧ Below w.heap.size w w' := by
  unfold maxLen at w0
  obtain ⟨a1, a2⟩ : -9223372036854775808 ≤ at_ ∧ at_ ≤ 9223372036854775807 := int_lim w1
  clear w1
  by_cases hs : 2048 < s.size
  · have i1 : (2048 : Int) < (s.size : Int) := by omega
    go_enter Tryz.func5, Tryz.ntmps5
    go_wp2_with fail
    refine (awake_any _).mono ?_
    rintro e wa ⟨rfl, ba⟩
    go_wp2
    go_ret
    exact ⟨rfl, ba⟩
  · have hs2 : s.size ≤ 2048 := by omega
    have i1 : ¬ (2048 : Int) < (s.size : Int) := by omega
    obtain ⟨k, hk, hk2⟩ := cut_at at_ s.size (by omega)
    clear hs
    go_enter Tryz.func5, Tryz.ntmps5
    go_wp2_with fail
    refine (awake_any _).mono ?_
    rintro e wa ⟨rfl, ba⟩
    have BA := Lib.hid ba
    clear ba
    have HS2 := Lib.hid hs2
    have HCNT := Lib.hid (count_le (ls s))
    obtain ⟨ST, hST⟩ : ∃ ST, (allF (ls s)).st = ST := ⟨_, rfl⟩
    have HST := Lib.hid hST
    clear hST
    have O0 : Owns wa noZ wa [noT, noT, noT, noT, noT, noT, noT] := Owns.none wa 7
    have C := own_new O0 0 rfl
    go_wp2_with fail
    refine C.mono ?_
    rintro e w1 ⟨pa, rfl, O1⟩
    clear C O0
    replace O1 : Owns wa noZ w1 [inT pa [] 0, noT, noT, noT, noT, noT, noT] := O1
    have C := own_new O1 1 rfl
    go_wp2_with fail
    refine C.mono ?_
    rintro e w2 ⟨pb, rfl, O2⟩
    clear C O1
    replace O2 : Owns wa noZ w2 [inT pa [] 0, inT pb [] 0, noT, noT, noT, noT, noT] := O2
    have C := own_new O2 2 rfl
    go_wp2_with fail
    refine C.mono ?_
    rintro e w3 ⟨pc, rfl, O3⟩
    clear C O2
    replace O3 : Owns wa noZ w3 [inT pa [] 0, inT pb [] 0, inT pc [] 0, noT, noT, noT, noT] := O3
    have CA := own_add O3 0 rfl s (by show 0 + s.size ≤ 16384; have := HS2.out; omega)
    go_wp2_with fail
    refine CA.mono ?_
    rintro e w4 ⟨rfl, O4⟩
    clear CA O3
    replace O4 : Owns wa noZ w4 [inT pa (ls s) 0, inT pb [] 0, inT pc [] 0, noT, noT, noT, noT] := O4
    have CQ := own_all O4 0 3 (by decide) rfl rfl (by have := HCNT.out.1; have := HS2.out; rw [ls_len] at *; omega) (by have := HS2.out; rw [ls_len]; omega)
    rw [HST.out] at CQ
    go_wp2_with fail
    refine CQ.mono ?_
    rintro e w5 ⟨ox, cx, xs, rfl, hxs, O5⟩
    clear CQ O4
    have HXS := Lib.hid hxs
    clear hxs
    replace O5 : Owns wa noZ w5 [noT, inT pb [] 0, inT pc [] 0, lsT (.slice ox xs.length cx) xs, noT, noT, noT] := own_drop O5 0 rfl
    have k1 : (k : Int) ≤ (s.size : Int) := by omega
    have et : ls (s.extract 0 k) = (ls s).take k := by rw [ls_extract]; simp
    have ed : ls (s.extract k s.size) = (ls s).drop k := by rw [ls_extract]; exact List.take_of_length_le (by rw [List.length_drop, ls_len]; exact Nat.le_refl _)
    have ez : (s.extract 0 k).size ≤ s.size := by rw [ByteArray.size_extract]; omega
    have ez2 : (s.extract k s.size).size ≤ s.size := by rw [ByteArray.size_extract]; omega
    have CB := own_add O5 1 rfl (s.extract 0 k) (by show 0 + (s.extract 0 k).size ≤ 16384; omega)
    rw [List.nil_append, et] at CB
    have HED := Lib.hid ed
    have HEZ := Lib.hid ez2
    clear ed ez2 et ez
    go_wp2_with fail
    refine CB.mono ?_
    rintro e w6 ⟨rfl, O6⟩
    clear CB O5
    replace O6 : Owns wa noZ w6 [noT, inT pb ((ls s).take k) 0, inT pc [] 0, lsT (.slice ox xs.length cx) xs, noT, noT, noT] := O6
    have hcb := count_le ((ls s).take k)
    have tl : ((ls s).take k).length ≤ s.size := by rw [List.length_take, ls_len]; omega
    have CQ := own_all O6 1 4 (by decide) rfl rfl (by omega) (by omega)
    have HCB := Lib.hid (And.intro hcb tl)
    clear hcb tl
    by_cases hb : (allF ((ls s).take k)).st = 0
    · obtain ⟨q1, q2, q3⟩ := all_cut ((ls s).take k) ((ls s).drop k) hb
      rw [List.take_append_drop] at q1 q2 q3
      rw [HST.out] at q2
      rw [hb] at CQ
      have HQ1 := Lib.hid q1
      have HQ2 := Lib.hid q2.symm
      clear q1 q2 q3 hb
      go_wp2_with fail
      refine CQ.mono ?_
      rintro e w7 ⟨oy0, cy0, y0, rfl, hy0, O7⟩
      clear CQ O6
      have HY0 := Lib.hid hy0
      clear hy0
      replace O7 : Owns wa noZ w7 [noT, inT pb (allF ((ls s).take k)).rest 0, inT pc [] 0, lsT (.slice ox xs.length cx) xs, lsT (.slice oy0 y0.length cy0) y0, noT, noT] := O7
      obtain ⟨RB, hRB⟩ : ∃ RB, (allF ((ls s).take k)).rest = RB := ⟨_, rfl⟩
      have HRB := Lib.hid hRB
      rw [hRB] at O7
      clear hRB
      have hrl : RB.length ≤ s.size := by have := HCB.out; rw [HRB.out] at this; omega
      have CB := own_add O7 1 rfl (s.extract k s.size) (by have := HEZ.out; omega)
      rw [HED.out] at CB
      go_wp2_with fail
      refine CB.mono ?_
      rintro e w8 ⟨rfl, O8⟩
      clear CB O7
      replace O8 : Owns wa noZ w8 [noT, inT pb (RB ++ (ls s).drop k) 0, inT pc [] 0, lsT (.slice ox xs.length cx) xs, lsT (.slice oy0 y0.length cy0) y0, noT, noT] := O8
      have hcd := count_le (RB ++ (ls s).drop k)
      have dl : (RB ++ (ls s).drop k).length ≤ s.size + s.size := by rw [List.length_append, List.length_drop, ls_len]; omega
      have CQ := own_all O8 1 6 (by decide) rfl rfl (by omega) (by omega)
      have HQ3 := HQ2.out
      rw [HRB.out] at HQ3
      rw [HQ3] at CQ
      have HML := Lib.hid hcd.1
      have HDL := Lib.hid dl
      clear hcd dl HQ3 hrl
      go_wp2_with fail
      refine CQ.mono ?_
      rintro e w9 ⟨om, cm, ms, rfl, hms, O9⟩
      clear CQ O8
      replace O9 : Owns wa noZ w9 [noT, noT, inT pc [] 0, lsT (.slice ox xs.length cx) xs, lsT (.slice oy0 y0.length cy0) y0, noT, lsT (.slice om ms.length cm) ms] := own_drop O9 1 rfl
      have HYS : Hid ((y0 ++ ms).map Prod.fst = (allF (ls s)).qs) := Lib.hid (by rw [List.map_append, HY0.out, hms, HQ1.out, HRB.out])
      have hbd : y0.length + ms.length ≤ 1000000 := by
        have h1 := fst_len HYS.out
        rw [List.length_append] at h1
        have h2 := HCNT.out.1
        rw [ls_len] at h2
        omega
      have AP := fun ty => own_join O9 4 6 (by decide) rfl rfl hbd ty
      clear hms hbd O9
      go_upto_region 17 with (at_builtin; refine wpl_appR AP rfl _ _ rfl rfl rfl ?_; intro v' w10 O10)
      clear AP
      replace O10 : Owns wa noZ w10 [noT, noT, inT pc [] 0, lsT (.slice ox xs.length cx) xs, lsT v' (y0 ++ ms), noT, noT] := O10
      obtain ⟨oy, cy, rfl, _⟩ := own_at O10 4 rfl
      obtain ⟨ys, hys⟩ : ∃ ys, y0 ++ ms = ys := ⟨_, rfl⟩
      rw [hys] at HYS O10 ⊢
      clear hys
      have ON := own_lnil O10 5 rfl
      have I0 : Hid (CInv wa (w10.alloc (.cells #[] 30)) pc s (lsT (.slice ox xs.length cx) xs) (lsT (.slice oy ys.length cy) ys) (.slice (some ⟨w10.heap.size, 0, none⟩) 0 0) [] 0 0) := Lib.hid ⟨Nat.zero_le _, by rw [List.take_zero, all_nil], by rw [List.take_zero, all_nil]; rfl, by rw [List.take_zero, all_nil]; exact ON⟩
      clear ON O10
      go_wp2_with fail
      generalize w10.alloc _ = w11 at I0 ⊢
      go_loopw [15, 16, 17] (fun z i p wr => ∃ (oz : Option Addr) (cz : Nat) (zs : List El) (ei : Int) (j : Nat), z = .slice oz zs.length cz ∧ i = .int .i64 ei ∧ p = .int .i64 j ∧ CInv wa wr pc s (lsT (.slice ox xs.length cx) xs) (lsT (.slice oy ys.length cy) ys) (.slice oz zs.length cz) zs ei j) (fun _ _ p _ => s.size - (intOf p).toNat)
      case atStart => exact ⟨_, _, [], 0, 0, rfl, rfl, rfl, I0.out⟩
      case round =>
        clear I0
        obtain ⟨oz, cz, zs, ei, j, rfl, rfl, rfl, JI⟩ := hrel
        have hj := JI.hj
        by_cases hgo : j < s.size ∧ ei = 0
        · obtain ⟨hlt, rfl⟩ := hgo
          have l1 : (j : Int) < (s.size : Int) := by omega
          obtain ⟨b, gb, eb, -, etk, -⟩ := get_ls hlt
          have e1 : ls (s.extract j (j + 1)) = [b] := by
            rw [ls_extract, show j + 1 - j = 1 by omega]
            have hd : (ls s).drop j = b :: (ls s).drop (j + 1) := by
              obtain ⟨c, gc, -, -, -, dc⟩ := get_ls hlt
              rw [gb] at gc
              rw [Option.some.inj gc]; exact dc
            rw [hd]; rfl
          have es : (s.extract j (j + 1)).size ≤ 1 := by rw [ByteArray.size_extract]; omega
          have hcj := count_le ((ls s).take j)
          have tl : ((ls s).take j).length ≤ s.size := by rw [List.length_take, ls_len]; omega
          have hs3 := HS2.out
          obtain ⟨q1, q2, q3⟩ := all_cut ((ls s).take j) [b] JI.st
          rw [← etk] at q1 q2 q3
          have zl := fst_len JI.qs
          have HZQ := Lib.hid JI.qs
          have O6 := JI.own
          have CC := own_add O6 2 rfl (s.extract j (j + 1)) (by omega)
          rw [e1] at CC
          have slj : ∀ w, (Instr.slice 9 (.string s) (some (.int .i64 (j : Int))) (some (.int .i64 ((j : Int) + 1))) none).run Tryz.prog w = .ok (.string (s.extract j (j + 1))) w := fun w => by
            have h := run_slice_string (P := Tryz.prog) (w := w) 9 s .i64 .i64 (j : Int) ((j : Int) + 1) Tryz.underlying9 (by omega) (by omega) (by omega)
            rw [show ((j : Int) + 1).toNat = j + 1 by omega, show ((j : Int)).toNat = j by omega] at h
            exact h
          obtain ⟨RJ, hRJ⟩ : ∃ RJ, (allF ((ls s).take j)).rest = RJ := ⟨_, rfl⟩
          rw [hRJ] at CC q1 q2 q3 hcj
          have hcm := count_le (RJ ++ [b])
          rw [List.length_append, List.length_singleton] at hcm
          have HC := Lib.hid (And.intro hcj (And.intro tl (And.intro zl hcm)))
          have HQ1 := Lib.hid q1
          have HQ2 := Lib.hid q2.symm
          have HQ3 := Lib.hid q3.symm
          clear JI gb eb etk e1 es hcj tl hs3 q1 q2 q3 zl hRJ hcm O6
          go_wp2_with fail
          refine CC.mono ?_
          rintro e w7 ⟨rfl, O7⟩
          clear CC slj
          replace O7 : Owns wa noZ w7 [noT, noT, inT pc (RJ ++ [b]) 0, lsT (.slice ox xs.length cx) xs, lsT (.slice oy ys.length cy) ys, lsT (.slice oz zs.length cz) zs, noT] := O7
          have CQ := own_all O7 2 6 (by decide) rfl rfl (by have := HC.out; have := HS2.out; omega) (by have := HC.out; have := HS2.out; rw [List.length_append, List.length_singleton]; omega)
          obtain ⟨en, hen⟩ : ∃ en, (allF ((ls s).take (j + 1))).st = en := ⟨_, rfl⟩
          rw [HQ2.out, HQ3.out, hen] at CQ
          have HEN := Lib.hid hen
          clear hen
          go_wp2_with fail
          refine CQ.mono ?_
          rintro e w8 ⟨om, cm, ms, rfl, hms, O8⟩
          clear CQ O7
          replace O8 : Owns wa noZ w8 [noT, noT, inT pc (allF ((ls s).take (j + 1))).rest en, lsT (.slice ox xs.length cx) xs, lsT (.slice oy ys.length cy) ys, lsT (.slice oz zs.length cz) zs, lsT (.slice om ms.length cm) ms] := O8
          have HM : Hid ((zs ++ ms).map Prod.fst = (allF ((ls s).take (j + 1))).qs) := Lib.hid (by rw [List.map_append, HZQ.out, hms, HQ1.out])
          have ml := fst_len hms
          have AP := fun ty => own_join O8 5 6 (by decide) rfl rfl (by have := HC.out; have := HS2.out; omega) ty
          clear ml hms O8
          go_upto_region 26 with (at_builtin; refine wpl_appR AP rfl _ _ rfl rfl rfl ?_; intro v' w9 O9)
          clear AP
          replace O9 : Owns wa noZ w9 [noT, noT, inT pc (allF ((ls s).take (j + 1))).rest en, lsT (.slice ox xs.length cx) xs, lsT (.slice oy ys.length cy) ys, lsT v' (zs ++ ms), noT] := O9
          obtain ⟨o9, c9, rfl, _⟩ := own_at O9 5 rfl
          have J9 : CInv wa w9 pc s (lsT (.slice ox xs.length cx) xs) (lsT (.slice oy ys.length cy) ys) (.slice o9 (zs ++ ms).length c9) (zs ++ ms) en (j + 1) := ⟨hlt, HEN.out, HM.out, O9⟩
          clear O9
          go_wp2
          go_roundw
          case rel => exact ⟨o9, c9, zs ++ ms, en, j + 1, rfl, rfl, by go_num, J9⟩
          case measure => simp [intOf]; omega
        · obtain ⟨h1, h2⟩ := JI.last hgo
          rw [HST.out] at h1
          have HZS := Lib.hid h2
          have O := JI.own
          clear JI h2
          subst h1
          by_cases hlt : j < s.size
          · have l1 : (j : Int) < (s.size : Int) := by omega
            have ge : (ei == 0) = false := by rw [beq_eq_false_iff_ne]; exact fun x => hgo ⟨hlt, x⟩
            have gs : (ei != ei) = false := by simp
            clear hgo hlt
            have lx := fst_len HXS.out
            have ly := fst_len HYS.out
            have lz := fst_len HZS.out
            obtain ⟨N, hN⟩ : ∃ N, (allF (ls s)).qs.length = N := ⟨_, rfl⟩
            rw [hN] at lx ly lz
            replace O : Owns wa noZ wr [noT, noT, noT, lsT (.slice ox N cx) xs, lsT (.slice oy N cy) ys, lsT (.slice oz N cz) zs, noT] := by
              rw [lx, ly, lz] at O
              exact own_drop O 2 rfl
            rw [lx, ly, lz]
            have HN := Lib.hid hN
            have hNz : N ≤ 2048 := by have h1 := HCNT.out.1; have h2 := HS2.out; rw [ls_len, HN.out] at h1; omega
            clear lx ly lz hN
            have gN : ((N : Int) != (N : Int)) = false := by simp
            have OH := Lib.hid O
            clear O
            go_wp2_with fail
            go_loopw [20] (fun i wr => ∃ p : Nat, p ≤ N ∧ i = .int .i64 p ∧ Owns wa noZ wr [noT, noT, noT, lsT (.slice ox N cx) xs, lsT (.slice oy N cy) ys, lsT (.slice oz N cz) zs, noT]) (fun i _ => N - (intOf i).toNat)
            case atStart => exact ⟨0, Nat.zero_le _, rfl, OH.out⟩
            case round =>
              clear OH gN
              obtain ⟨p, hp, rfl, O⟩ := hrel
              by_cases hpN : p < N
              · have l2 : (p : Int) < (N : Int) := by omega
                obtain ⟨Q, hQ⟩ : ∃ Q, (allF (ls s)).qs[p]? = some Q := ⟨(allF (ls s)).qs[p]'(by rw [HN.out]; exact hpN), List.getElem?_eq_getElem _⟩
                have hsh := (all_few _ (ls s) (Nat.le_refl _) Q (List.mem_of_getElem? hQ)).len
                obtain ⟨fx, hx⟩ := fst_at HXS.out hQ
                obtain ⟨fy, hy⟩ := fst_at HYS.out hQ
                obtain ⟨fz, hz⟩ := fst_at HZS.out hQ
                obtain ⟨b1, rfl⟩ := own_base O 3 rfl hx
                obtain ⟨b2, rfl⟩ := own_base O 4 rfl hy
                obtain ⟨b3, rfl⟩ := own_base O 5 rfl hz
                have LX : Hid (∀ z, Owns wa noZ z [noT, noT, noT, lsT (.slice (some b1) N cx) xs, lsT (.slice (some b2) N cy) ys, lsT (.slice (some b3) N cz) zs, noT] → Loads Tryz.prog z 30 (b1.add (p * 4)) (rqV Q fx)) := Lib.hid fun z j => (own_loads j 3 rfl hx).1
                have LY : Hid (∀ z, Owns wa noZ z [noT, noT, noT, lsT (.slice (some b1) N cx) xs, lsT (.slice (some b2) N cy) ys, lsT (.slice (some b3) N cz) zs, noT] → Loads Tryz.prog z 30 (b2.add (p * 4)) (rqV Q fy)) := Lib.hid fun z j => (own_loads j 4 rfl hy).1
                have LZ : Hid (∀ z, Owns wa noZ z [noT, noT, noT, lsT (.slice (some b1) N cx) xs, lsT (.slice (some b2) N cy) ys, lsT (.slice (some b3) N cz) zs, noT] → Loads Tryz.prog z 30 (b3.add (p * 4)) (rqV Q fz)) := Lib.hid fun z j => (own_loads j 5 rfl hz).1
                have SY : Hid (∀ z, Owns wa noZ z [noT, noT, noT, lsT (.slice (some b1) N cx) xs, lsT (.slice (some b2) N cy) ys, lsT (.slice (some b3) N cz) zs, noT] → Calls Tryz.prog 13 #[.agg (rqV Q fx), .agg (rqV Q fy)] z fun e w' => e = .returned (.bool true) ∧ Below z.heap.size z w') := Lib.hid fun z j => same_any Q (own_loads j 3 rfl hx).2 (own_loads j 4 rfl hy).2 (by omega)
                have SZ : Hid (∀ z, Owns wa noZ z [noT, noT, noT, lsT (.slice (some b1) N cx) xs, lsT (.slice (some b2) N cy) ys, lsT (.slice (some b3) N cz) zs, noT] → Calls Tryz.prog 13 #[.agg (rqV Q fx), .agg (rqV Q fz)] z fun e w' => e = .returned (.bool true) ∧ Below z.heap.size z w') := Lib.hid fun z j => same_any Q (own_loads j 3 rfl hx).2 (own_loads j 5 rfl hz).2 (by omega)
                clear hx hy hz hQ hsh
                go_upto_region 32 with (fail)
                refine wp_region_held (S := fun z => Owns wa noZ z [noT, noT, noT, lsT (.slice (some b1) N cx) xs, lsT (.slice (some b2) N cy) ys, lsT (.slice (some b3) N cz) zs, noT]) (by kernel_rfl) ?_
                change wpAnyH _ _ _ _ _ _ _ _ wr.drew
                have J : Owns wa noZ wr.drew [noT, noT, noT, lsT (.slice (some b1) N cx) xs, lsT (.slice (some b2) N cy) ys, lsT (.slice (some b3) N cz) zs, noT] := O.below ((Below.refl _ _).drew)
                clear O
                generalize wr.drew = w4 at J ⊢
                refine held_take 0 (.slice (some b1) N cx) rfl (by kernel_rfl) (by kernel_rfl) (by kernel_rfl) (fun _ _ _ h => h) (Or.inl ⟨by rfl, fun x j => by go_simp⟩) J (fun K hK => ?_)
                go_simp
                refine hK _ _ ?_
                clear hK K
                refine held_take 1 (.int .i64 (p : Int)) rfl (by kernel_rfl) (by kernel_rfl) (by kernel_rfl) (fun _ _ _ h => h) (Or.inl ⟨by rfl, fun x j => by go_simp⟩) J (fun K hK => ?_)
                go_simp
                refine hK _ _ ?_
                clear hK K
                refine held_take 2 (.pointer (some (b1.add (p * 4)))) rfl (by kernel_rfl) (by kernel_rfl) (by kernel_rfl) (fun _ _ _ h => h) (Or.inl ⟨by rfl, fun x j => by go_simp⟩) J (fun K hK => ?_)
                go_simp
                refine hK _ _ ?_
                clear hK K
                refine held_take 3 (.agg (rqV Q fx)) rfl (by kernel_rfl) (by kernel_rfl) (by kernel_rfl) (fun _ _ _ h => h) (yields_load LX.out rfl rfl rfl) J (fun K hK => ?_)
                go_simp
                refine hK _ _ ?_
                clear hK K
                refine held_take 4 (.slice (some b2) N cy) rfl (by kernel_rfl) (by kernel_rfl) (by kernel_rfl) (fun _ _ _ h => h) (Or.inl ⟨by rfl, fun x j => by go_simp⟩) J (fun K hK => ?_)
                go_simp
                refine hK _ _ ?_
                clear hK K
                refine held_take 5 (.int .i64 (p : Int)) rfl (by kernel_rfl) (by kernel_rfl) (by kernel_rfl) (fun _ _ _ h => h) (Or.inl ⟨by rfl, fun x j => by go_simp⟩) J (fun K hK => ?_)
                go_simp
                refine hK _ _ ?_
                clear hK K
                refine held_take 6 (.pointer (some (b2.add (p * 4)))) rfl (by kernel_rfl) (by kernel_rfl) (by kernel_rfl) (fun _ _ _ h => h) (Or.inl ⟨by rfl, fun x j => by go_simp⟩) J (fun K hK => ?_)
                go_simp
                refine hK _ _ ?_
                clear hK K
                refine held_take 7 (.agg (rqV Q fy)) rfl (by kernel_rfl) (by kernel_rfl) (by kernel_rfl) (fun _ _ _ h => h) (yields_load LY.out rfl rfl rfl) J (fun K hK => ?_)
                go_simp
                refine hK _ _ ?_
                clear hK K
                refine held_one 8 (by kernel_rfl) (fun K hK => wpOp_in rfl rfl ?_)
                go_simp
                refine (SY.out _ J).mono ?_
                rintro e u1 ⟨rfl, F1⟩
                have J2 := J.below F1
                refine hK _ _ J2 ?_
                clear F1
                clear hK K
                refine held_take 9 (.bool false) rfl (by kernel_rfl) (by kernel_rfl) (by kernel_rfl) (fun _ _ _ h => h) (Or.inl ⟨by rfl, fun x j => by go_simp⟩) J2 (fun K hK => ?_)
                go_simp
                refine hK _ _ ?_
                clear hK K
                refine held_take 10 (.bool false) rfl (by kernel_rfl) (by kernel_rfl) (by kernel_rfl) (fun _ _ _ h => h) (Or.inl ⟨by rfl, fun x j => by go_simp⟩) J2 (fun K hK => ?_)
                go_simp
                refine hK _ _ ?_
                clear hK K
                refine held_take 11 (.slice (some b1) N cx) rfl (by kernel_rfl) (by kernel_rfl) (by kernel_rfl) (fun _ _ _ h => h) (Or.inl ⟨by rfl, fun x j => by go_simp⟩) J2 (fun K hK => ?_)
                go_simp
                refine hK _ _ ?_
                clear hK K
                refine held_take 12 (.int .i64 (p : Int)) rfl (by kernel_rfl) (by kernel_rfl) (by kernel_rfl) (fun _ _ _ h => h) (Or.inl ⟨by rfl, fun x j => by go_simp⟩) J2 (fun K hK => ?_)
                go_simp
                refine hK _ _ ?_
                clear hK K
                refine held_take 13 (.pointer (some (b1.add (p * 4)))) rfl (by kernel_rfl) (by kernel_rfl) (by kernel_rfl) (fun _ _ _ h => h) (Or.inl ⟨by rfl, fun x j => by go_simp⟩) J2 (fun K hK => ?_)
                go_simp
                refine hK _ _ ?_
                clear hK K
                refine held_take 14 (.agg (rqV Q fx)) rfl (by kernel_rfl) (by kernel_rfl) (by kernel_rfl) (fun _ _ _ h => h) (yields_load LX.out rfl rfl rfl) J2 (fun K hK => ?_)
                go_simp
                refine hK _ _ ?_
                clear hK K
                refine held_take 15 (.slice (some b3) N cz) rfl (by kernel_rfl) (by kernel_rfl) (by kernel_rfl) (fun _ _ _ h => h) (Or.inl ⟨by rfl, fun x j => by go_simp⟩) J2 (fun K hK => ?_)
                go_simp
                refine hK _ _ ?_
                clear hK K
                refine held_take 16 (.int .i64 (p : Int)) rfl (by kernel_rfl) (by kernel_rfl) (by kernel_rfl) (fun _ _ _ h => h) (Or.inl ⟨by rfl, fun x j => by go_simp⟩) J2 (fun K hK => ?_)
                go_simp
                refine hK _ _ ?_
                clear hK K
                refine held_take 17 (.pointer (some (b3.add (p * 4)))) rfl (by kernel_rfl) (by kernel_rfl) (by kernel_rfl) (fun _ _ _ h => h) (Or.inl ⟨by rfl, fun x j => by go_simp⟩) J2 (fun K hK => ?_)
                go_simp
                refine hK _ _ ?_
                clear hK K
                refine held_take 18 (.agg (rqV Q fz)) rfl (by kernel_rfl) (by kernel_rfl) (by kernel_rfl) (fun _ _ _ h => h) (yields_load LZ.out rfl rfl rfl) J2 (fun K hK => ?_)
                go_simp
                refine hK _ _ ?_
                clear hK K
                refine held_one 19 (by kernel_rfl) (fun K hK => wpOp_in rfl rfl ?_)
                go_simp
                refine (SZ.out _ J2).mono ?_
                rintro e u1 ⟨rfl, F1⟩
                have J3 := J2.below F1
                refine hK _ _ J3 ?_
                clear F1
                clear hK K
                refine held_take 20 (.bool false) rfl (by kernel_rfl) (by kernel_rfl) (by kernel_rfl) (fun _ _ _ h => h) (Or.inl ⟨by rfl, fun x j => by go_simp⟩) J3 (fun K hK => ?_)
                go_simp
                refine hK _ _ ?_
                clear hK K
                refine held_take 21 (.bool false) rfl (by kernel_rfl) (by kernel_rfl) (by kernel_rfl) (fun _ _ _ h => h) (Or.inl ⟨by rfl, fun x j => by go_simp⟩) J3 (fun K hK => ?_)
                go_simp
                refine hK _ _ ?_
                clear hK K
                refine wpAnyH_done (by kernel_rfl) ?_ _
                clear LX LY LZ SY SZ
                go_wp2
                go_roundw
                case rel => exact ⟨p + 1, by omega, by go_num, J3⟩
                case measure => simp [intOf]; omega
              · have l2 : ¬ (p : Int) < (N : Int) := by omega
                have bw := BA.out.trans (O.bel.mono BA.out.size)
                clear O
                go_wp2
                go_ret
                exact ⟨rfl, bw⟩
          · have l1 : ¬ (j : Int) < (s.size : Int) := by omega
            have gs : (ei != ei) = false := by simp
            clear hgo hlt
            have lx := fst_len HXS.out
            have ly := fst_len HYS.out
            have lz := fst_len HZS.out
            obtain ⟨N, hN⟩ : ∃ N, (allF (ls s)).qs.length = N := ⟨_, rfl⟩
            rw [hN] at lx ly lz
            replace O : Owns wa noZ wr [noT, noT, noT, lsT (.slice ox N cx) xs, lsT (.slice oy N cy) ys, lsT (.slice oz N cz) zs, noT] := by
              rw [lx, ly, lz] at O
              exact own_drop O 2 rfl
            rw [lx, ly, lz]
            have HN := Lib.hid hN
            have hNz : N ≤ 2048 := by have h1 := HCNT.out.1; have h2 := HS2.out; rw [ls_len, HN.out] at h1; omega
            clear lx ly lz hN
            have gN : ((N : Int) != (N : Int)) = false := by simp
            have OH := Lib.hid O
            clear O
            go_wp2_with fail
            go_loopw [20] (fun i wr => ∃ p : Nat, p ≤ N ∧ i = .int .i64 p ∧ Owns wa noZ wr [noT, noT, noT, lsT (.slice ox N cx) xs, lsT (.slice oy N cy) ys, lsT (.slice oz N cz) zs, noT]) (fun i _ => N - (intOf i).toNat)
            case atStart => exact ⟨0, Nat.zero_le _, rfl, OH.out⟩
            case round =>
              clear OH gN
              obtain ⟨p, hp, rfl, O⟩ := hrel
              by_cases hpN : p < N
              · have l2 : (p : Int) < (N : Int) := by omega
                obtain ⟨Q, hQ⟩ : ∃ Q, (allF (ls s)).qs[p]? = some Q := ⟨(allF (ls s)).qs[p]'(by rw [HN.out]; exact hpN), List.getElem?_eq_getElem _⟩
                have hsh := (all_few _ (ls s) (Nat.le_refl _) Q (List.mem_of_getElem? hQ)).len
                obtain ⟨fx, hx⟩ := fst_at HXS.out hQ
                obtain ⟨fy, hy⟩ := fst_at HYS.out hQ
                obtain ⟨fz, hz⟩ := fst_at HZS.out hQ
                obtain ⟨b1, rfl⟩ := own_base O 3 rfl hx
                obtain ⟨b2, rfl⟩ := own_base O 4 rfl hy
                obtain ⟨b3, rfl⟩ := own_base O 5 rfl hz
                have LX : Hid (∀ z, Owns wa noZ z [noT, noT, noT, lsT (.slice (some b1) N cx) xs, lsT (.slice (some b2) N cy) ys, lsT (.slice (some b3) N cz) zs, noT] → Loads Tryz.prog z 30 (b1.add (p * 4)) (rqV Q fx)) := Lib.hid fun z j => (own_loads j 3 rfl hx).1
                have LY : Hid (∀ z, Owns wa noZ z [noT, noT, noT, lsT (.slice (some b1) N cx) xs, lsT (.slice (some b2) N cy) ys, lsT (.slice (some b3) N cz) zs, noT] → Loads Tryz.prog z 30 (b2.add (p * 4)) (rqV Q fy)) := Lib.hid fun z j => (own_loads j 4 rfl hy).1
                have LZ : Hid (∀ z, Owns wa noZ z [noT, noT, noT, lsT (.slice (some b1) N cx) xs, lsT (.slice (some b2) N cy) ys, lsT (.slice (some b3) N cz) zs, noT] → Loads Tryz.prog z 30 (b3.add (p * 4)) (rqV Q fz)) := Lib.hid fun z j => (own_loads j 5 rfl hz).1
                have SY : Hid (∀ z, Owns wa noZ z [noT, noT, noT, lsT (.slice (some b1) N cx) xs, lsT (.slice (some b2) N cy) ys, lsT (.slice (some b3) N cz) zs, noT] → Calls Tryz.prog 13 #[.agg (rqV Q fx), .agg (rqV Q fy)] z fun e w' => e = .returned (.bool true) ∧ Below z.heap.size z w') := Lib.hid fun z j => same_any Q (own_loads j 3 rfl hx).2 (own_loads j 4 rfl hy).2 (by omega)
                have SZ : Hid (∀ z, Owns wa noZ z [noT, noT, noT, lsT (.slice (some b1) N cx) xs, lsT (.slice (some b2) N cy) ys, lsT (.slice (some b3) N cz) zs, noT] → Calls Tryz.prog 13 #[.agg (rqV Q fx), .agg (rqV Q fz)] z fun e w' => e = .returned (.bool true) ∧ Below z.heap.size z w') := Lib.hid fun z j => same_any Q (own_loads j 3 rfl hx).2 (own_loads j 5 rfl hz).2 (by omega)
                clear hx hy hz hQ hsh
                go_upto_region 32 with (fail)
                refine wp_region_held (S := fun z => Owns wa noZ z [noT, noT, noT, lsT (.slice (some b1) N cx) xs, lsT (.slice (some b2) N cy) ys, lsT (.slice (some b3) N cz) zs, noT]) (by kernel_rfl) ?_
                change wpAnyH _ _ _ _ _ _ _ _ wr.drew
                have J : Owns wa noZ wr.drew [noT, noT, noT, lsT (.slice (some b1) N cx) xs, lsT (.slice (some b2) N cy) ys, lsT (.slice (some b3) N cz) zs, noT] := O.below ((Below.refl _ _).drew)
                clear O
                generalize wr.drew = w4 at J ⊢
                refine held_take 0 (.slice (some b1) N cx) rfl (by kernel_rfl) (by kernel_rfl) (by kernel_rfl) (fun _ _ _ h => h) (Or.inl ⟨by rfl, fun x j => by go_simp⟩) J (fun K hK => ?_)
                go_simp
                refine hK _ _ ?_
                clear hK K
                refine held_take 1 (.int .i64 (p : Int)) rfl (by kernel_rfl) (by kernel_rfl) (by kernel_rfl) (fun _ _ _ h => h) (Or.inl ⟨by rfl, fun x j => by go_simp⟩) J (fun K hK => ?_)
                go_simp
                refine hK _ _ ?_
                clear hK K
                refine held_take 2 (.pointer (some (b1.add (p * 4)))) rfl (by kernel_rfl) (by kernel_rfl) (by kernel_rfl) (fun _ _ _ h => h) (Or.inl ⟨by rfl, fun x j => by go_simp⟩) J (fun K hK => ?_)
                go_simp
                refine hK _ _ ?_
                clear hK K
                refine held_take 3 (.agg (rqV Q fx)) rfl (by kernel_rfl) (by kernel_rfl) (by kernel_rfl) (fun _ _ _ h => h) (yields_load LX.out rfl rfl rfl) J (fun K hK => ?_)
                go_simp
                refine hK _ _ ?_
                clear hK K
                refine held_take 4 (.slice (some b2) N cy) rfl (by kernel_rfl) (by kernel_rfl) (by kernel_rfl) (fun _ _ _ h => h) (Or.inl ⟨by rfl, fun x j => by go_simp⟩) J (fun K hK => ?_)
                go_simp
                refine hK _ _ ?_
                clear hK K
                refine held_take 5 (.int .i64 (p : Int)) rfl (by kernel_rfl) (by kernel_rfl) (by kernel_rfl) (fun _ _ _ h => h) (Or.inl ⟨by rfl, fun x j => by go_simp⟩) J (fun K hK => ?_)
                go_simp
                refine hK _ _ ?_
                clear hK K
                refine held_take 6 (.pointer (some (b2.add (p * 4)))) rfl (by kernel_rfl) (by kernel_rfl) (by kernel_rfl) (fun _ _ _ h => h) (Or.inl ⟨by rfl, fun x j => by go_simp⟩) J (fun K hK => ?_)
                go_simp
                refine hK _ _ ?_
                clear hK K
                refine held_take 7 (.agg (rqV Q fy)) rfl (by kernel_rfl) (by kernel_rfl) (by kernel_rfl) (fun _ _ _ h => h) (yields_load LY.out rfl rfl rfl) J (fun K hK => ?_)
                go_simp
                refine hK _ _ ?_
                clear hK K
                refine held_one 8 (by kernel_rfl) (fun K hK => wpOp_in rfl rfl ?_)
                go_simp
                refine (SY.out _ J).mono ?_
                rintro e u1 ⟨rfl, F1⟩
                have J2 := J.below F1
                refine hK _ _ J2 ?_
                clear F1
                clear hK K
                refine held_take 9 (.bool false) rfl (by kernel_rfl) (by kernel_rfl) (by kernel_rfl) (fun _ _ _ h => h) (Or.inl ⟨by rfl, fun x j => by go_simp⟩) J2 (fun K hK => ?_)
                go_simp
                refine hK _ _ ?_
                clear hK K
                refine held_take 10 (.bool false) rfl (by kernel_rfl) (by kernel_rfl) (by kernel_rfl) (fun _ _ _ h => h) (Or.inl ⟨by rfl, fun x j => by go_simp⟩) J2 (fun K hK => ?_)
                go_simp
                refine hK _ _ ?_
                clear hK K
                refine held_take 11 (.slice (some b1) N cx) rfl (by kernel_rfl) (by kernel_rfl) (by kernel_rfl) (fun _ _ _ h => h) (Or.inl ⟨by rfl, fun x j => by go_simp⟩) J2 (fun K hK => ?_)
                go_simp
                refine hK _ _ ?_
                clear hK K
                refine held_take 12 (.int .i64 (p : Int)) rfl (by kernel_rfl) (by kernel_rfl) (by kernel_rfl) (fun _ _ _ h => h) (Or.inl ⟨by rfl, fun x j => by go_simp⟩) J2 (fun K hK => ?_)
                go_simp
                refine hK _ _ ?_
                clear hK K
                refine held_take 13 (.pointer (some (b1.add (p * 4)))) rfl (by kernel_rfl) (by kernel_rfl) (by kernel_rfl) (fun _ _ _ h => h) (Or.inl ⟨by rfl, fun x j => by go_simp⟩) J2 (fun K hK => ?_)
                go_simp
                refine hK _ _ ?_
                clear hK K
                refine held_take 14 (.agg (rqV Q fx)) rfl (by kernel_rfl) (by kernel_rfl) (by kernel_rfl) (fun _ _ _ h => h) (yields_load LX.out rfl rfl rfl) J2 (fun K hK => ?_)
                go_simp
                refine hK _ _ ?_
                clear hK K
                refine held_take 15 (.slice (some b3) N cz) rfl (by kernel_rfl) (by kernel_rfl) (by kernel_rfl) (fun _ _ _ h => h) (Or.inl ⟨by rfl, fun x j => by go_simp⟩) J2 (fun K hK => ?_)
                go_simp
                refine hK _ _ ?_
                clear hK K
                refine held_take 16 (.int .i64 (p : Int)) rfl (by kernel_rfl) (by kernel_rfl) (by kernel_rfl) (fun _ _ _ h => h) (Or.inl ⟨by rfl, fun x j => by go_simp⟩) J2 (fun K hK => ?_)
                go_simp
                refine hK _ _ ?_
                clear hK K
                refine held_take 17 (.pointer (some (b3.add (p * 4)))) rfl (by kernel_rfl) (by kernel_rfl) (by kernel_rfl) (fun _ _ _ h => h) (Or.inl ⟨by rfl, fun x j => by go_simp⟩) J2 (fun K hK => ?_)
                go_simp
                refine hK _ _ ?_
                clear hK K
                refine held_take 18 (.agg (rqV Q fz)) rfl (by kernel_rfl) (by kernel_rfl) (by kernel_rfl) (fun _ _ _ h => h) (yields_load LZ.out rfl rfl rfl) J2 (fun K hK => ?_)
                go_simp
                refine hK _ _ ?_
                clear hK K
                refine held_one 19 (by kernel_rfl) (fun K hK => wpOp_in rfl rfl ?_)
                go_simp
                refine (SZ.out _ J2).mono ?_
                rintro e u1 ⟨rfl, F1⟩
                have J3 := J2.below F1
                refine hK _ _ J3 ?_
                clear F1
                clear hK K
                refine held_take 20 (.bool false) rfl (by kernel_rfl) (by kernel_rfl) (by kernel_rfl) (fun _ _ _ h => h) (Or.inl ⟨by rfl, fun x j => by go_simp⟩) J3 (fun K hK => ?_)
                go_simp
                refine hK _ _ ?_
                clear hK K
                refine held_take 21 (.bool false) rfl (by kernel_rfl) (by kernel_rfl) (by kernel_rfl) (fun _ _ _ h => h) (Or.inl ⟨by rfl, fun x j => by go_simp⟩) J3 (fun K hK => ?_)
                go_simp
                refine hK _ _ ?_
                clear hK K
                refine wpAnyH_done (by kernel_rfl) ?_ _
                clear LX LY LZ SY SZ
                go_wp2
                go_roundw
                case rel => exact ⟨p + 1, by omega, by go_num, J3⟩
                case measure => simp [intOf]; omega
              · have l2 : ¬ (p : Int) < (N : Int) := by omega
                have bw := BA.out.trans (O.bel.mono BA.out.size)
                clear O
                go_wp2
                go_ret
                exact ⟨rfl, bw⟩
    · obtain ⟨q1, q2⟩ := all_cut_bad ((ls s).take k) ((ls s).drop k) hb
      rw [List.take_append_drop] at q1 q2
      rw [HST.out] at q2
      rw [← q1, ← q2] at CQ
      have gb : (ST == 0) = false := by rw [beq_eq_false_iff_ne, q2]; exact hb
      clear q1 q2 hb
      go_wp2_with fail
      refine CQ.mono ?_
      rintro e w10 ⟨oy, cy, ys, rfl, hys, O10⟩
      clear CQ O6
      have HYS := Lib.hid hys
      clear hys
      replace O10 : Owns wa noZ w10 [noT, noT, inT pc [] 0, lsT (.slice ox xs.length cx) xs, lsT (.slice oy ys.length cy) ys, noT, noT] := own_drop O10 1 rfl
      have ON := own_lnil O10 5 rfl
      have I0 : Hid (CInv wa (w10.alloc (.cells #[] 30)) pc s (lsT (.slice ox xs.length cx) xs) (lsT (.slice oy ys.length cy) ys) (.slice (some ⟨w10.heap.size, 0, none⟩) 0 0) [] 0 0) := Lib.hid ⟨Nat.zero_le _, by rw [List.take_zero, all_nil], by rw [List.take_zero, all_nil]; rfl, by rw [List.take_zero, all_nil]; exact ON⟩
      clear ON O10
      go_wp2_with fail
      generalize w10.alloc _ = w11 at I0 ⊢
      go_loopw [15, 16, 17] (fun z i p wr => ∃ (oz : Option Addr) (cz : Nat) (zs : List El) (ei : Int) (j : Nat), z = .slice oz zs.length cz ∧ i = .int .i64 ei ∧ p = .int .i64 j ∧ CInv wa wr pc s (lsT (.slice ox xs.length cx) xs) (lsT (.slice oy ys.length cy) ys) (.slice oz zs.length cz) zs ei j) (fun _ _ p _ => s.size - (intOf p).toNat)
      case atStart => exact ⟨_, _, [], 0, 0, rfl, rfl, rfl, I0.out⟩
      case round =>
        clear I0
        obtain ⟨oz, cz, zs, ei, j, rfl, rfl, rfl, JI⟩ := hrel
        have hj := JI.hj
        by_cases hgo : j < s.size ∧ ei = 0
        · obtain ⟨hlt, rfl⟩ := hgo
          have l1 : (j : Int) < (s.size : Int) := by omega
          obtain ⟨b, gb, eb, -, etk, -⟩ := get_ls hlt
          have e1 : ls (s.extract j (j + 1)) = [b] := by
            rw [ls_extract, show j + 1 - j = 1 by omega]
            have hd : (ls s).drop j = b :: (ls s).drop (j + 1) := by
              obtain ⟨c, gc, -, -, -, dc⟩ := get_ls hlt
              rw [gb] at gc
              rw [Option.some.inj gc]; exact dc
            rw [hd]; rfl
          have es : (s.extract j (j + 1)).size ≤ 1 := by rw [ByteArray.size_extract]; omega
          have hcj := count_le ((ls s).take j)
          have tl : ((ls s).take j).length ≤ s.size := by rw [List.length_take, ls_len]; omega
          have hs3 := HS2.out
          obtain ⟨q1, q2, q3⟩ := all_cut ((ls s).take j) [b] JI.st
          rw [← etk] at q1 q2 q3
          have zl := fst_len JI.qs
          have HZQ := Lib.hid JI.qs
          have O6 := JI.own
          have CC := own_add O6 2 rfl (s.extract j (j + 1)) (by omega)
          rw [e1] at CC
          have slj : ∀ w, (Instr.slice 9 (.string s) (some (.int .i64 (j : Int))) (some (.int .i64 ((j : Int) + 1))) none).run Tryz.prog w = .ok (.string (s.extract j (j + 1))) w := fun w => by
            have h := run_slice_string (P := Tryz.prog) (w := w) 9 s .i64 .i64 (j : Int) ((j : Int) + 1) Tryz.underlying9 (by omega) (by omega) (by omega)
            rw [show ((j : Int) + 1).toNat = j + 1 by omega, show ((j : Int)).toNat = j by omega] at h
            exact h
          obtain ⟨RJ, hRJ⟩ : ∃ RJ, (allF ((ls s).take j)).rest = RJ := ⟨_, rfl⟩
          rw [hRJ] at CC q1 q2 q3 hcj
          have hcm := count_le (RJ ++ [b])
          rw [List.length_append, List.length_singleton] at hcm
          have HC := Lib.hid (And.intro hcj (And.intro tl (And.intro zl hcm)))
          have HQ1 := Lib.hid q1
          have HQ2 := Lib.hid q2.symm
          have HQ3 := Lib.hid q3.symm
          clear JI gb eb etk e1 es hcj tl hs3 q1 q2 q3 zl hRJ hcm O6
          go_wp2_with fail
          refine CC.mono ?_
          rintro e w7 ⟨rfl, O7⟩
          clear CC slj
          replace O7 : Owns wa noZ w7 [noT, noT, inT pc (RJ ++ [b]) 0, lsT (.slice ox xs.length cx) xs, lsT (.slice oy ys.length cy) ys, lsT (.slice oz zs.length cz) zs, noT] := O7
          have CQ := own_all O7 2 6 (by decide) rfl rfl (by have := HC.out; have := HS2.out; omega) (by have := HC.out; have := HS2.out; rw [List.length_append, List.length_singleton]; omega)
          obtain ⟨en, hen⟩ : ∃ en, (allF ((ls s).take (j + 1))).st = en := ⟨_, rfl⟩
          rw [HQ2.out, HQ3.out, hen] at CQ
          have HEN := Lib.hid hen
          clear hen
          go_wp2_with fail
          refine CQ.mono ?_
          rintro e w8 ⟨om, cm, ms, rfl, hms, O8⟩
          clear CQ O7
          replace O8 : Owns wa noZ w8 [noT, noT, inT pc (allF ((ls s).take (j + 1))).rest en, lsT (.slice ox xs.length cx) xs, lsT (.slice oy ys.length cy) ys, lsT (.slice oz zs.length cz) zs, lsT (.slice om ms.length cm) ms] := O8
          have HM : Hid ((zs ++ ms).map Prod.fst = (allF ((ls s).take (j + 1))).qs) := Lib.hid (by rw [List.map_append, HZQ.out, hms, HQ1.out])
          have ml := fst_len hms
          have AP := fun ty => own_join O8 5 6 (by decide) rfl rfl (by have := HC.out; have := HS2.out; omega) ty
          clear ml hms O8
          go_upto_region 26 with (at_builtin; refine wpl_appR AP rfl _ _ rfl rfl rfl ?_; intro v' w9 O9)
          clear AP
          replace O9 : Owns wa noZ w9 [noT, noT, inT pc (allF ((ls s).take (j + 1))).rest en, lsT (.slice ox xs.length cx) xs, lsT (.slice oy ys.length cy) ys, lsT v' (zs ++ ms), noT] := O9
          obtain ⟨o9, c9, rfl, _⟩ := own_at O9 5 rfl
          have J9 : CInv wa w9 pc s (lsT (.slice ox xs.length cx) xs) (lsT (.slice oy ys.length cy) ys) (.slice o9 (zs ++ ms).length c9) (zs ++ ms) en (j + 1) := ⟨hlt, HEN.out, HM.out, O9⟩
          clear O9
          go_wp2
          go_roundw
          case rel => exact ⟨o9, c9, zs ++ ms, en, j + 1, rfl, rfl, by go_num, J9⟩
          case measure => simp [intOf]; omega
        · obtain ⟨h1, h2⟩ := JI.last hgo
          rw [HST.out] at h1
          have HZS := Lib.hid h2
          have O := JI.own
          clear JI h2
          subst h1
          by_cases hlt : j < s.size
          · have l1 : (j : Int) < (s.size : Int) := by omega
            have ge : (ei == 0) = false := by rw [beq_eq_false_iff_ne]; exact fun x => hgo ⟨hlt, x⟩
            have gs : (ei != ei) = false := by simp
            clear hgo hlt
            have lx := fst_len HXS.out
            have ly := fst_len HYS.out
            have lz := fst_len HZS.out
            obtain ⟨N, hN⟩ : ∃ N, (allF (ls s)).qs.length = N := ⟨_, rfl⟩
            rw [hN] at lx ly lz
            replace O : Owns wa noZ wr [noT, noT, noT, lsT (.slice ox N cx) xs, lsT (.slice oy N cy) ys, lsT (.slice oz N cz) zs, noT] := by
              rw [lx, ly, lz] at O
              exact own_drop O 2 rfl
            rw [lx, ly, lz]
            have HN := Lib.hid hN
            have hNz : N ≤ 2048 := by have h1 := HCNT.out.1; have h2 := HS2.out; rw [ls_len, HN.out] at h1; omega
            clear lx ly lz hN
            have gN : ((N : Int) != (N : Int)) = false := by simp
            have OH := Lib.hid O
            clear O
            go_wp2_with fail
            go_loopw [20] (fun i wr => ∃ p : Nat, p ≤ N ∧ i = .int .i64 p ∧ Owns wa noZ wr [noT, noT, noT, lsT (.slice ox N cx) xs, lsT (.slice oy N cy) ys, lsT (.slice oz N cz) zs, noT]) (fun i _ => N - (intOf i).toNat)
            case atStart => exact ⟨0, Nat.zero_le _, rfl, OH.out⟩
            case round =>
              clear OH gN
              obtain ⟨p, hp, rfl, O⟩ := hrel
              by_cases hpN : p < N
              · have l2 : (p : Int) < (N : Int) := by omega
                obtain ⟨Q, hQ⟩ : ∃ Q, (allF (ls s)).qs[p]? = some Q := ⟨(allF (ls s)).qs[p]'(by rw [HN.out]; exact hpN), List.getElem?_eq_getElem _⟩
                have hsh := (all_few _ (ls s) (Nat.le_refl _) Q (List.mem_of_getElem? hQ)).len
                obtain ⟨fx, hx⟩ := fst_at HXS.out hQ
                obtain ⟨fy, hy⟩ := fst_at HYS.out hQ
                obtain ⟨fz, hz⟩ := fst_at HZS.out hQ
                obtain ⟨b1, rfl⟩ := own_base O 3 rfl hx
                obtain ⟨b2, rfl⟩ := own_base O 4 rfl hy
                obtain ⟨b3, rfl⟩ := own_base O 5 rfl hz
                have LX : Hid (∀ z, Owns wa noZ z [noT, noT, noT, lsT (.slice (some b1) N cx) xs, lsT (.slice (some b2) N cy) ys, lsT (.slice (some b3) N cz) zs, noT] → Loads Tryz.prog z 30 (b1.add (p * 4)) (rqV Q fx)) := Lib.hid fun z j => (own_loads j 3 rfl hx).1
                have LY : Hid (∀ z, Owns wa noZ z [noT, noT, noT, lsT (.slice (some b1) N cx) xs, lsT (.slice (some b2) N cy) ys, lsT (.slice (some b3) N cz) zs, noT] → Loads Tryz.prog z 30 (b2.add (p * 4)) (rqV Q fy)) := Lib.hid fun z j => (own_loads j 4 rfl hy).1
                have LZ : Hid (∀ z, Owns wa noZ z [noT, noT, noT, lsT (.slice (some b1) N cx) xs, lsT (.slice (some b2) N cy) ys, lsT (.slice (some b3) N cz) zs, noT] → Loads Tryz.prog z 30 (b3.add (p * 4)) (rqV Q fz)) := Lib.hid fun z j => (own_loads j 5 rfl hz).1
                have SY : Hid (∀ z, Owns wa noZ z [noT, noT, noT, lsT (.slice (some b1) N cx) xs, lsT (.slice (some b2) N cy) ys, lsT (.slice (some b3) N cz) zs, noT] → Calls Tryz.prog 13 #[.agg (rqV Q fx), .agg (rqV Q fy)] z fun e w' => e = .returned (.bool true) ∧ Below z.heap.size z w') := Lib.hid fun z j => same_any Q (own_loads j 3 rfl hx).2 (own_loads j 4 rfl hy).2 (by omega)
                have SZ : Hid (∀ z, Owns wa noZ z [noT, noT, noT, lsT (.slice (some b1) N cx) xs, lsT (.slice (some b2) N cy) ys, lsT (.slice (some b3) N cz) zs, noT] → Calls Tryz.prog 13 #[.agg (rqV Q fx), .agg (rqV Q fz)] z fun e w' => e = .returned (.bool true) ∧ Below z.heap.size z w') := Lib.hid fun z j => same_any Q (own_loads j 3 rfl hx).2 (own_loads j 5 rfl hz).2 (by omega)
                clear hx hy hz hQ hsh
                go_upto_region 32 with (fail)
                refine wp_region_held (S := fun z => Owns wa noZ z [noT, noT, noT, lsT (.slice (some b1) N cx) xs, lsT (.slice (some b2) N cy) ys, lsT (.slice (some b3) N cz) zs, noT]) (by kernel_rfl) ?_
                change wpAnyH _ _ _ _ _ _ _ _ wr.drew
                have J : Owns wa noZ wr.drew [noT, noT, noT, lsT (.slice (some b1) N cx) xs, lsT (.slice (some b2) N cy) ys, lsT (.slice (some b3) N cz) zs, noT] := O.below ((Below.refl _ _).drew)
                clear O
                generalize wr.drew = w4 at J ⊢
                refine held_take 0 (.slice (some b1) N cx) rfl (by kernel_rfl) (by kernel_rfl) (by kernel_rfl) (fun _ _ _ h => h) (Or.inl ⟨by rfl, fun x j => by go_simp⟩) J (fun K hK => ?_)
                go_simp
                refine hK _ _ ?_
                clear hK K
                refine held_take 1 (.int .i64 (p : Int)) rfl (by kernel_rfl) (by kernel_rfl) (by kernel_rfl) (fun _ _ _ h => h) (Or.inl ⟨by rfl, fun x j => by go_simp⟩) J (fun K hK => ?_)
                go_simp
                refine hK _ _ ?_
                clear hK K
                refine held_take 2 (.pointer (some (b1.add (p * 4)))) rfl (by kernel_rfl) (by kernel_rfl) (by kernel_rfl) (fun _ _ _ h => h) (Or.inl ⟨by rfl, fun x j => by go_simp⟩) J (fun K hK => ?_)
                go_simp
                refine hK _ _ ?_
                clear hK K
                refine held_take 3 (.agg (rqV Q fx)) rfl (by kernel_rfl) (by kernel_rfl) (by kernel_rfl) (fun _ _ _ h => h) (yields_load LX.out rfl rfl rfl) J (fun K hK => ?_)
                go_simp
                refine hK _ _ ?_
                clear hK K
                refine held_take 4 (.slice (some b2) N cy) rfl (by kernel_rfl) (by kernel_rfl) (by kernel_rfl) (fun _ _ _ h => h) (Or.inl ⟨by rfl, fun x j => by go_simp⟩) J (fun K hK => ?_)
                go_simp
                refine hK _ _ ?_
                clear hK K
                refine held_take 5 (.int .i64 (p : Int)) rfl (by kernel_rfl) (by kernel_rfl) (by kernel_rfl) (fun _ _ _ h => h) (Or.inl ⟨by rfl, fun x j => by go_simp⟩) J (fun K hK => ?_)
                go_simp
                refine hK _ _ ?_
                clear hK K
                refine held_take 6 (.pointer (some (b2.add (p * 4)))) rfl (by kernel_rfl) (by kernel_rfl) (by kernel_rfl) (fun _ _ _ h => h) (Or.inl ⟨by rfl, fun x j => by go_simp⟩) J (fun K hK => ?_)
                go_simp
                refine hK _ _ ?_
                clear hK K
                refine held_take 7 (.agg (rqV Q fy)) rfl (by kernel_rfl) (by kernel_rfl) (by kernel_rfl) (fun _ _ _ h => h) (yields_load LY.out rfl rfl rfl) J (fun K hK => ?_)
                go_simp
                refine hK _ _ ?_
                clear hK K
                refine held_one 8 (by kernel_rfl) (fun K hK => wpOp_in rfl rfl ?_)
                go_simp
                refine (SY.out _ J).mono ?_
                rintro e u1 ⟨rfl, F1⟩
                have J2 := J.below F1
                refine hK _ _ J2 ?_
                clear F1
                clear hK K
                refine held_take 9 (.bool false) rfl (by kernel_rfl) (by kernel_rfl) (by kernel_rfl) (fun _ _ _ h => h) (Or.inl ⟨by rfl, fun x j => by go_simp⟩) J2 (fun K hK => ?_)
                go_simp
                refine hK _ _ ?_
                clear hK K
                refine held_take 10 (.bool false) rfl (by kernel_rfl) (by kernel_rfl) (by kernel_rfl) (fun _ _ _ h => h) (Or.inl ⟨by rfl, fun x j => by go_simp⟩) J2 (fun K hK => ?_)
                go_simp
                refine hK _ _ ?_
                clear hK K
                refine held_take 11 (.slice (some b1) N cx) rfl (by kernel_rfl) (by kernel_rfl) (by kernel_rfl) (fun _ _ _ h => h) (Or.inl ⟨by rfl, fun x j => by go_simp⟩) J2 (fun K hK => ?_)
                go_simp
                refine hK _ _ ?_
                clear hK K
                refine held_take 12 (.int .i64 (p : Int)) rfl (by kernel_rfl) (by kernel_rfl) (by kernel_rfl) (fun _ _ _ h => h) (Or.inl ⟨by rfl, fun x j => by go_simp⟩) J2 (fun K hK => ?_)
                go_simp
                refine hK _ _ ?_
                clear hK K
                refine held_take 13 (.pointer (some (b1.add (p * 4)))) rfl (by kernel_rfl) (by kernel_rfl) (by kernel_rfl) (fun _ _ _ h => h) (Or.inl ⟨by rfl, fun x j => by go_simp⟩) J2 (fun K hK => ?_)
                go_simp
                refine hK _ _ ?_
                clear hK K
                refine held_take 14 (.agg (rqV Q fx)) rfl (by kernel_rfl) (by kernel_rfl) (by kernel_rfl) (fun _ _ _ h => h) (yields_load LX.out rfl rfl rfl) J2 (fun K hK => ?_)
                go_simp
                refine hK _ _ ?_
                clear hK K
                refine held_take 15 (.slice (some b3) N cz) rfl (by kernel_rfl) (by kernel_rfl) (by kernel_rfl) (fun _ _ _ h => h) (Or.inl ⟨by rfl, fun x j => by go_simp⟩) J2 (fun K hK => ?_)
                go_simp
                refine hK _ _ ?_
                clear hK K
                refine held_take 16 (.int .i64 (p : Int)) rfl (by kernel_rfl) (by kernel_rfl) (by kernel_rfl) (fun _ _ _ h => h) (Or.inl ⟨by rfl, fun x j => by go_simp⟩) J2 (fun K hK => ?_)
                go_simp
                refine hK _ _ ?_
                clear hK K
                refine held_take 17 (.pointer (some (b3.add (p * 4)))) rfl (by kernel_rfl) (by kernel_rfl) (by kernel_rfl) (fun _ _ _ h => h) (Or.inl ⟨by rfl, fun x j => by go_simp⟩) J2 (fun K hK => ?_)
                go_simp
                refine hK _ _ ?_
                clear hK K
                refine held_take 18 (.agg (rqV Q fz)) rfl (by kernel_rfl) (by kernel_rfl) (by kernel_rfl) (fun _ _ _ h => h) (yields_load LZ.out rfl rfl rfl) J2 (fun K hK => ?_)
                go_simp
                refine hK _ _ ?_
                clear hK K
                refine held_one 19 (by kernel_rfl) (fun K hK => wpOp_in rfl rfl ?_)
                go_simp
                refine (SZ.out _ J2).mono ?_
                rintro e u1 ⟨rfl, F1⟩
                have J3 := J2.below F1
                refine hK _ _ J3 ?_
                clear F1
                clear hK K
                refine held_take 20 (.bool false) rfl (by kernel_rfl) (by kernel_rfl) (by kernel_rfl) (fun _ _ _ h => h) (Or.inl ⟨by rfl, fun x j => by go_simp⟩) J3 (fun K hK => ?_)
                go_simp
                refine hK _ _ ?_
                clear hK K
                refine held_take 21 (.bool false) rfl (by kernel_rfl) (by kernel_rfl) (by kernel_rfl) (fun _ _ _ h => h) (Or.inl ⟨by rfl, fun x j => by go_simp⟩) J3 (fun K hK => ?_)
                go_simp
                refine hK _ _ ?_
                clear hK K
                refine wpAnyH_done (by kernel_rfl) ?_ _
                clear LX LY LZ SY SZ
                go_wp2
                go_roundw
                case rel => exact ⟨p + 1, by omega, by go_num, J3⟩
                case measure => simp [intOf]; omega
              · have l2 : ¬ (p : Int) < (N : Int) := by omega
                have bw := BA.out.trans (O.bel.mono BA.out.size)
                clear O
                go_wp2
                go_ret
                exact ⟨rfl, bw⟩
          · have l1 : ¬ (j : Int) < (s.size : Int) := by omega
            have gs : (ei != ei) = false := by simp
            clear hgo hlt
            have lx := fst_len HXS.out
            have ly := fst_len HYS.out
            have lz := fst_len HZS.out
            obtain ⟨N, hN⟩ : ∃ N, (allF (ls s)).qs.length = N := ⟨_, rfl⟩
            rw [hN] at lx ly lz
            replace O : Owns wa noZ wr [noT, noT, noT, lsT (.slice ox N cx) xs, lsT (.slice oy N cy) ys, lsT (.slice oz N cz) zs, noT] := by
              rw [lx, ly, lz] at O
              exact own_drop O 2 rfl
            rw [lx, ly, lz]
            have HN := Lib.hid hN
            have hNz : N ≤ 2048 := by have h1 := HCNT.out.1; have h2 := HS2.out; rw [ls_len, HN.out] at h1; omega
            clear lx ly lz hN
            have gN : ((N : Int) != (N : Int)) = false := by simp
            have OH := Lib.hid O
            clear O
            go_wp2_with fail
            go_loopw [20] (fun i wr => ∃ p : Nat, p ≤ N ∧ i = .int .i64 p ∧ Owns wa noZ wr [noT, noT, noT, lsT (.slice ox N cx) xs, lsT (.slice oy N cy) ys, lsT (.slice oz N cz) zs, noT]) (fun i _ => N - (intOf i).toNat)
            case atStart => exact ⟨0, Nat.zero_le _, rfl, OH.out⟩
            case round =>
              clear OH gN
              obtain ⟨p, hp, rfl, O⟩ := hrel
              by_cases hpN : p < N
              · have l2 : (p : Int) < (N : Int) := by omega
                obtain ⟨Q, hQ⟩ : ∃ Q, (allF (ls s)).qs[p]? = some Q := ⟨(allF (ls s)).qs[p]'(by rw [HN.out]; exact hpN), List.getElem?_eq_getElem _⟩
                have hsh := (all_few _ (ls s) (Nat.le_refl _) Q (List.mem_of_getElem? hQ)).len
                obtain ⟨fx, hx⟩ := fst_at HXS.out hQ
                obtain ⟨fy, hy⟩ := fst_at HYS.out hQ
                obtain ⟨fz, hz⟩ := fst_at HZS.out hQ
                obtain ⟨b1, rfl⟩ := own_base O 3 rfl hx
                obtain ⟨b2, rfl⟩ := own_base O 4 rfl hy
                obtain ⟨b3, rfl⟩ := own_base O 5 rfl hz
                have LX : Hid (∀ z, Owns wa noZ z [noT, noT, noT, lsT (.slice (some b1) N cx) xs, lsT (.slice (some b2) N cy) ys, lsT (.slice (some b3) N cz) zs, noT] → Loads Tryz.prog z 30 (b1.add (p * 4)) (rqV Q fx)) := Lib.hid fun z j => (own_loads j 3 rfl hx).1
                have LY : Hid (∀ z, Owns wa noZ z [noT, noT, noT, lsT (.slice (some b1) N cx) xs, lsT (.slice (some b2) N cy) ys, lsT (.slice (some b3) N cz) zs, noT] → Loads Tryz.prog z 30 (b2.add (p * 4)) (rqV Q fy)) := Lib.hid fun z j => (own_loads j 4 rfl hy).1
                have LZ : Hid (∀ z, Owns wa noZ z [noT, noT, noT, lsT (.slice (some b1) N cx) xs, lsT (.slice (some b2) N cy) ys, lsT (.slice (some b3) N cz) zs, noT] → Loads Tryz.prog z 30 (b3.add (p * 4)) (rqV Q fz)) := Lib.hid fun z j => (own_loads j 5 rfl hz).1
                have SY : Hid (∀ z, Owns wa noZ z [noT, noT, noT, lsT (.slice (some b1) N cx) xs, lsT (.slice (some b2) N cy) ys, lsT (.slice (some b3) N cz) zs, noT] → Calls Tryz.prog 13 #[.agg (rqV Q fx), .agg (rqV Q fy)] z fun e w' => e = .returned (.bool true) ∧ Below z.heap.size z w') := Lib.hid fun z j => same_any Q (own_loads j 3 rfl hx).2 (own_loads j 4 rfl hy).2 (by omega)
                have SZ : Hid (∀ z, Owns wa noZ z [noT, noT, noT, lsT (.slice (some b1) N cx) xs, lsT (.slice (some b2) N cy) ys, lsT (.slice (some b3) N cz) zs, noT] → Calls Tryz.prog 13 #[.agg (rqV Q fx), .agg (rqV Q fz)] z fun e w' => e = .returned (.bool true) ∧ Below z.heap.size z w') := Lib.hid fun z j => same_any Q (own_loads j 3 rfl hx).2 (own_loads j 5 rfl hz).2 (by omega)
                clear hx hy hz hQ hsh
                go_upto_region 32 with (fail)
                refine wp_region_held (S := fun z => Owns wa noZ z [noT, noT, noT, lsT (.slice (some b1) N cx) xs, lsT (.slice (some b2) N cy) ys, lsT (.slice (some b3) N cz) zs, noT]) (by kernel_rfl) ?_
                change wpAnyH _ _ _ _ _ _ _ _ wr.drew
                have J : Owns wa noZ wr.drew [noT, noT, noT, lsT (.slice (some b1) N cx) xs, lsT (.slice (some b2) N cy) ys, lsT (.slice (some b3) N cz) zs, noT] := O.below ((Below.refl _ _).drew)
                clear O
                generalize wr.drew = w4 at J ⊢
                refine held_take 0 (.slice (some b1) N cx) rfl (by kernel_rfl) (by kernel_rfl) (by kernel_rfl) (fun _ _ _ h => h) (Or.inl ⟨by rfl, fun x j => by go_simp⟩) J (fun K hK => ?_)
                go_simp
                refine hK _ _ ?_
                clear hK K
                refine held_take 1 (.int .i64 (p : Int)) rfl (by kernel_rfl) (by kernel_rfl) (by kernel_rfl) (fun _ _ _ h => h) (Or.inl ⟨by rfl, fun x j => by go_simp⟩) J (fun K hK => ?_)
                go_simp
                refine hK _ _ ?_
                clear hK K
                refine held_take 2 (.pointer (some (b1.add (p * 4)))) rfl (by kernel_rfl) (by kernel_rfl) (by kernel_rfl) (fun _ _ _ h => h) (Or.inl ⟨by rfl, fun x j => by go_simp⟩) J (fun K hK => ?_)
                go_simp
                refine hK _ _ ?_
                clear hK K
                refine held_take 3 (.agg (rqV Q fx)) rfl (by kernel_rfl) (by kernel_rfl) (by kernel_rfl) (fun _ _ _ h => h) (yields_load LX.out rfl rfl rfl) J (fun K hK => ?_)
                go_simp
                refine hK _ _ ?_
                clear hK K
                refine held_take 4 (.slice (some b2) N cy) rfl (by kernel_rfl) (by kernel_rfl) (by kernel_rfl) (fun _ _ _ h => h) (Or.inl ⟨by rfl, fun x j => by go_simp⟩) J (fun K hK => ?_)
                go_simp
                refine hK _ _ ?_
                clear hK K
                refine held_take 5 (.int .i64 (p : Int)) rfl (by kernel_rfl) (by kernel_rfl) (by kernel_rfl) (fun _ _ _ h => h) (Or.inl ⟨by rfl, fun x j => by go_simp⟩) J (fun K hK => ?_)
                go_simp
                refine hK _ _ ?_
                clear hK K
                refine held_take 6 (.pointer (some (b2.add (p * 4)))) rfl (by kernel_rfl) (by kernel_rfl) (by kernel_rfl) (fun _ _ _ h => h) (Or.inl ⟨by rfl, fun x j => by go_simp⟩) J (fun K hK => ?_)
                go_simp
                refine hK _ _ ?_
                clear hK K
                refine held_take 7 (.agg (rqV Q fy)) rfl (by kernel_rfl) (by kernel_rfl) (by kernel_rfl) (fun _ _ _ h => h) (yields_load LY.out rfl rfl rfl) J (fun K hK => ?_)
                go_simp
                refine hK _ _ ?_
                clear hK K
                refine held_one 8 (by kernel_rfl) (fun K hK => wpOp_in rfl rfl ?_)
                go_simp
                refine (SY.out _ J).mono ?_
                rintro e u1 ⟨rfl, F1⟩
                have J2 := J.below F1
                refine hK _ _ J2 ?_
                clear F1
                clear hK K
                refine held_take 9 (.bool false) rfl (by kernel_rfl) (by kernel_rfl) (by kernel_rfl) (fun _ _ _ h => h) (Or.inl ⟨by rfl, fun x j => by go_simp⟩) J2 (fun K hK => ?_)
                go_simp
                refine hK _ _ ?_
                clear hK K
                refine held_take 10 (.bool false) rfl (by kernel_rfl) (by kernel_rfl) (by kernel_rfl) (fun _ _ _ h => h) (Or.inl ⟨by rfl, fun x j => by go_simp⟩) J2 (fun K hK => ?_)
                go_simp
                refine hK _ _ ?_
                clear hK K
                refine held_take 11 (.slice (some b1) N cx) rfl (by kernel_rfl) (by kernel_rfl) (by kernel_rfl) (fun _ _ _ h => h) (Or.inl ⟨by rfl, fun x j => by go_simp⟩) J2 (fun K hK => ?_)
                go_simp
                refine hK _ _ ?_
                clear hK K
                refine held_take 12 (.int .i64 (p : Int)) rfl (by kernel_rfl) (by kernel_rfl) (by kernel_rfl) (fun _ _ _ h => h) (Or.inl ⟨by rfl, fun x j => by go_simp⟩) J2 (fun K hK => ?_)
                go_simp
                refine hK _ _ ?_
                clear hK K
                refine held_take 13 (.pointer (some (b1.add (p * 4)))) rfl (by kernel_rfl) (by kernel_rfl) (by kernel_rfl) (fun _ _ _ h => h) (Or.inl ⟨by rfl, fun x j => by go_simp⟩) J2 (fun K hK => ?_)
                go_simp
                refine hK _ _ ?_
                clear hK K
                refine held_take 14 (.agg (rqV Q fx)) rfl (by kernel_rfl) (by kernel_rfl) (by kernel_rfl) (fun _ _ _ h => h) (yields_load LX.out rfl rfl rfl) J2 (fun K hK => ?_)
                go_simp
                refine hK _ _ ?_
                clear hK K
                refine held_take 15 (.slice (some b3) N cz) rfl (by kernel_rfl) (by kernel_rfl) (by kernel_rfl) (fun _ _ _ h => h) (Or.inl ⟨by rfl, fun x j => by go_simp⟩) J2 (fun K hK => ?_)
                go_simp
                refine hK _ _ ?_
                clear hK K
                refine held_take 16 (.int .i64 (p : Int)) rfl (by kernel_rfl) (by kernel_rfl) (by kernel_rfl) (fun _ _ _ h => h) (Or.inl ⟨by rfl, fun x j => by go_simp⟩) J2 (fun K hK => ?_)
                go_simp
                refine hK _ _ ?_
                clear hK K
                refine held_take 17 (.pointer (some (b3.add (p * 4)))) rfl (by kernel_rfl) (by kernel_rfl) (by kernel_rfl) (fun _ _ _ h => h) (Or.inl ⟨by rfl, fun x j => by go_simp⟩) J2 (fun K hK => ?_)
                go_simp
                refine hK _ _ ?_
                clear hK K
                refine held_take 18 (.agg (rqV Q fz)) rfl (by kernel_rfl) (by kernel_rfl) (by kernel_rfl) (fun _ _ _ h => h) (yields_load LZ.out rfl rfl rfl) J2 (fun K hK => ?_)
                go_simp
                refine hK _ _ ?_
                clear hK K
                refine held_one 19 (by kernel_rfl) (fun K hK => wpOp_in rfl rfl ?_)
                go_simp
                refine (SZ.out _ J2).mono ?_
                rintro e u1 ⟨rfl, F1⟩
                have J3 := J2.below F1
                refine hK _ _ J3 ?_
                clear F1
                clear hK K
                refine held_take 20 (.bool false) rfl (by kernel_rfl) (by kernel_rfl) (by kernel_rfl) (fun _ _ _ h => h) (Or.inl ⟨by rfl, fun x j => by go_simp⟩) J3 (fun K hK => ?_)
                go_simp
                refine hK _ _ ?_
                clear hK K
                refine held_take 21 (.bool false) rfl (by kernel_rfl) (by kernel_rfl) (by kernel_rfl) (fun _ _ _ h => h) (Or.inl ⟨by rfl, fun x j => by go_simp⟩) J3 (fun K hK => ?_)
                go_simp
                refine hK _ _ ?_
                clear hK K
                refine wpAnyH_done (by kernel_rfl) ?_ _
                clear LX LY LZ SY SZ
                go_wp2
                go_roundw
                case rel => exact ⟨p + 1, by omega, by go_num, J3⟩
                case measure => simp [intOf]; omega
              · have l2 : ¬ (p : Int) < (N : Int) := by omega
                have bw := BA.out.trans (O.bel.mono BA.out.size)
                clear O
                go_wp2
                go_ret
                exact ⟨rfl, bw⟩
end Go.Proofs.YtbngfphiachnoaaGreatDoor.In
