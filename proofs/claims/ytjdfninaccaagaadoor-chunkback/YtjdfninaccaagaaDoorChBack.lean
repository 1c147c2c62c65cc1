/-
  The walk of ChunkBack.
-/
import Derived.Test.YtjdfninaccaagaaDoorChCuts
namespace Go.Proofs.YtjdfninaccaagaaDoor.Ch
open Go.RowKit Go.PlainAid
open Hx Fi
set_option linter.unusedVariables false
set_option maxRecDepth 20000
set_option linter.unusedSimpArgs false

theorem cut_at (x : Int) (n : Nat) (hn : 0 < n) (h60 : n ≤ 1000000) : ∃ k : Nat, k < n ∧ wrap64 ((IntKind.u64.wrap x).tmod (n : Int)) = (k : Int) := by
  have h0 : 0 ≤ IntKind.u64.wrap x := wrap_u64_nonneg x
  rw [Int.tmod_eq_emod_of_nonneg h0]
  have h1 := Int.emod_nonneg (IntKind.u64.wrap x) (show (n : Int) ≠ 0 by omega)
  have h2 := Int.emod_lt_of_pos (IntKind.u64.wrap x) (show 0 < (n : Int) by omega)
  generalize IntKind.u64.wrap x % (n : Int) = y at h1 h2
  refine ⟨y.toNat, by omega, ?_⟩
  unfold wrap64; omega
theorem back_many (s more : ByteArray) (by_ cut : Int) (w : World) (h0 : s.size ≤ 9223372036854775807) (hm : more.size ≤ 9223372036854775807) (h : 4096 < s.size ∨ 4096 < more.size) :
    Calls Tryd.prog 6 #[.string s, .int .i64 by_, .string more, .int .i64 cut] w fun e w' => e = .returned (.bool true) ∧ Below w.heap.size w w' := by
  by_cases h1 : 4096 < s.size
  · have d1 : (4096 : Int) < (s.size : Int) := by omega
    clear h
    go_enter Tryd.func6, Tryd.ntmps6
    go_wp2_with fail
    refine (awake_any _).mono ?_
    rintro e wa ⟨rfl, ba⟩
    go_wp2
    go_ret
    exact ⟨rfl, ba⟩
  · have d1 : ¬ (4096 : Int) < (s.size : Int) := by omega
    have d2 : (4096 : Int) < (more.size : Int) := by omega
    clear h
    go_enter Tryd.func6, Tryd.ntmps6
    go_wp2_with fail
    refine (awake_any _).mono ?_
    rintro e wa ⟨rfl, ba⟩
    go_wp2
    go_ret
    exact ⟨rfl, ba⟩
theorem wrt_pos (b : Nat) (s : List UInt8) : 0 < (wrt b s).length := by
  by_cases h : s = []
  · subst h; rw [wrt_nil]; decide
  · rw [wrt_more b h]; simp; omega
/-- what is known of a text in chunks -/
structure Txt (s : ByteArray) (W : ByteArray) : Prop where
  pos : 0 < W.size
  le : W.size ≤ 100000
  full : ∀ r, run s.size init (ls W ++ r) = ⟨.done r, s.size, ls s⟩
  long : ∀ m, m < s.size → ∃ n u, run m init (ls W) = ⟨.err 4, n, u⟩
theorem txt_of (s : ByteArray) (b : Nat) (hs : s.size ≤ 4096) : Txt s (tx (wrt b (ls s))) := by
  have hl : (ls s).length = s.size := ls_len s
  refine ⟨by rw [tx_size]; exact wrt_pos b _, ?_, fun r => ?_, fun m hm => ?_⟩
  · have := wrt_len b (ls s).length (ls s) (Nat.le_refl _) (by omega)
    rw [tx_size]; omega
  · have := read_back b s.size (ls s).length (ls s) (Nat.le_refl _) 0 [] r (by omega) (by omega)
    rw [ls_tx]
    rw [Nat.zero_add, hl, List.nil_append] at this
    exact this
  · obtain ⟨n, u, h⟩ := read_long b m (ls s).length (ls s) (Nat.le_refl _) 0 [] [] (by omega) (by omega) (by omega)
    rw [List.append_nil] at h
    rw [ls_tx]
    exact ⟨n, u, h⟩
/-- cut off -/
theorem Txt.cut {s W : ByteArray} (h : Txt s W) {k : Nat} (hk : k < W.size) : ∃ R, run s.size init ((ls W).take k) = R ∧ R.md.error = 0 ∧ R.md.isDone = false ∧ R.md.rest = [] ∧ ∃ v, ls s = R.u ++ v := by
  have hf := h.full []
  rw [List.append_nil] at hf
  have hq : (ls W).drop k ≠ [] := fun e => by
    have := congrArg List.length e
    rw [List.length_drop, ls_len] at this
    simp at this; omega
  rw [← List.take_append_drop k (ls W)] at hf
  have hf2 : run s.size init ((ls W).take k ++ (ls W).drop k) = ⟨.done [], (ls s).length, ls s⟩ := by rw [hf, ls_len]
  obtain ⟨h1, h2, h3⟩ := read_part hq hf2
  refine ⟨_, rfl, ?_, h2, ?_, h3⟩
  · generalize run s.size init ((ls W).take k) = R at *
    cases hm : R.md <;> first | rfl | (exact absurd hm (h1 _))
  · generalize run s.size init ((ls W).take k) = R at *
    cases hm : R.md <;> first | rfl | (rw [hm] at h2; cases h2)
set_option maxRecDepth 100000 in
set_option maxHeartbeats 8000000 in
theorem walkBack (s : ByteArray) (by_ : Int) (more : ByteArray) (cut : Int) (w : World) (w0 : s.size ≤ maxLen) (w1 : (Lit.int .i64 by_).wf = true) (w2 : more.size ≤ maxLen) (w3 : (Lit.int .i64 cut).wf = true) :
    Calls Tryd.prog 6 #[.string s, .int .i64 by_, .string more, .int .i64 cut] w fun e w' => e = .returned (.bool true) ∧ Below w.heap.size w w' := by
  unfold maxLen at w0 w2
  by_cases hbig : 4096 < s.size ∨ 4096 < more.size
  · exact back_many s more by_ cut w (by omega) (by omega) hbig
  obtain ⟨m1, m2⟩ := int_bd w1
  have hs : s.size ≤ 4096 := by omega
  have hmo : more.size ≤ 4096 := by omega
  have d1 : ¬ (4096 : Int) < (s.size : Int) := by omega
  have d2 : ¬ (4096 : Int) < (more.size : Int) := by omega
  have wr := fun w => write_any s by_ w (by omega) m1 m2
  have T := txt_of s (by_.toNat - 1) hs
  generalize tx (wrt (by_.toNat - 1) (ls s)) = W at wr T
  clear w0 w1 w2 w3 m1 m2 hbig
  obtain ⟨k, hk, hk2⟩ := cut_at cut W.size T.pos (by have := T.le; omega)
  have HT := Lib.hid T
  have HS := Lib.hid hs
  have HMO := Lib.hid hmo
  clear T hs hmo
  have nw : ∀ (L : List Ob) (w1 : World) (m : Nat), m ≤ 4096 → Own w w1 L → Calls Tryd.prog 8 #[.int .i64 (m : Int)] w1 fun e w' => ∃ p, e = .returned (.pointer (some ⟨p, 0, none⟩)) ∧ Own w w' (L ++ [⟨p, m, init⟩]) := fun L w1 m hm h => own_new h (m : Int) (by omega) (by omega)
  have HNW := Lib.hid nw
  clear nw
  go_enter Tryd.func6, Tryd.ntmps6
  go_wp2_with fail
  refine (awake_any _).mono ?_
  rintro e wa ⟨rfl, ba⟩
  have O0 := (Own.none w).below ba
  clear ba
  go_wp2_with fail
  refine (wr _).mono ?_
  rintro e wb ⟨rfl, bb⟩
  have O1 := O0.below bb
  clear wr bb O0
  go_wp2_with fail
  refine (HNW.out _ _ _ HS.out O1).mono ?_
  rintro e w1 ⟨pc, rfl, O2⟩
  have O2 : Own w w1 [⟨pc, s.size, init⟩] := O2
  clear O1
  have hsz := HS.out
  have hms := HMO.out
  have hws := HT.out.le
  have lW : ls (W ++ more) = ls W ++ ls more := ls_append W more
  have zW : (W ++ more).size ≤ 200000 := by rw [ByteArray.size_append]; omega
  have c1 := own_add O2 0 (p := pc) (most := s.size) (s := init) rfl (init_ok _) (by omega) (W ++ more) (by omega) (by show 0 + (W ++ more).size ≤ _; omega) (by show 0 + (W ++ more).size ≤ _; omega)
  rw [lW, HT.out.full] at c1
  clear lW zW hsz
  go_wp2_with fail
  refine c1.mono ?_
  rintro e w2 ⟨rfl, O3⟩
  have O3 : Own w w2 [⟨pc, s.size, ⟨.done (ls more), s.size, ls s⟩⟩] := O3
  clear c1 O2
  have c2 := own_done O3 0 (p := pc) (most := s.size) (s := ⟨.done (ls more), s.size, ls s⟩) rfl
  rw [show (CS.md ⟨.done (ls more), s.size, ls s⟩).isDone = true from rfl] at c2
  rw [show (CS.md ⟨.done (ls more), s.size, ls s⟩).error = 0 from rfl]
  go_wp2_with fail
  refine c2.mono ?_
  rintro e w' ⟨rfl, rfl⟩
  clear c2
  have c3 := own_take O3 0 (p := pc) (most := s.size) (s := ⟨.done (ls more), s.size, ls s⟩) rfl
  rw [show tx (CS.u ⟨.done (ls more), s.size, ls s⟩) = s from tx_ls s] at c3
  have n1 : (s.toList != s.toList) = false := by simp
  go_wp2_with fail
  refine c3.mono ?_
  rintro e w3 ⟨rfl, O4⟩
  have O4 : Own w w3 [⟨pc, s.size, ⟨.done (ls more), s.size, []⟩⟩] := O4
  clear c3 O3
  have c4 := own_rest O4 0 (p := pc) (most := s.size) (s := ⟨.done (ls more), s.size, []⟩) rfl
  rw [show tx (CS.md ⟨.done (ls more), s.size, []⟩).rest = more from tx_ls more] at c4
  have n2 : (more.toList != more.toList) = false := by simp
  go_wp2_with fail
  refine c4.mono ?_
  rintro e w' ⟨rfl, rfl⟩
  clear c4
  go_wp2_with fail
  refine (HNW.out _ _ _ HS.out O4).mono ?_
  rintro e w4 ⟨pd, rfl, O5⟩
  have O5 : Own w w4 [⟨pc, s.size, ⟨.done (ls more), s.size, []⟩⟩, ⟨pd, s.size, init⟩] := O5
  clear O4 n1 n2
  obtain ⟨R, hR, r1, r2, r3, v, hv⟩ := HT.out.cut hk
  have k1 : (k : Int) ≤ (W.size : Int) := by omega
  have et : ls (W.extract 0 k) = (ls W).take k := by rw [ls_extract]; simp
  have ez : (W.extract 0 k).size ≤ 100000 := by have := HT.out.le; rw [ByteArray.size_extract]; omega
  have c5 := own_add O5 1 (p := pd) (most := s.size) (s := init) rfl (init_ok _) (by have := HS.out; omega) (W.extract 0 k) (by omega) (by show 0 + (W.extract 0 k).size ≤ _; omega) (by show 0 + (W.extract 0 k).size ≤ _; omega)
  rw [et, hR, r1] at c5
  have hRu : R.u.length ≤ s.size := by have := congrArg List.length hv; rw [ls_len, List.length_append] at this; omega
  have HR := Lib.hid hR
  have HV := Lib.hid hv
  have R1 := Lib.hid r1
  have R2 := Lib.hid r2
  have R3 := Lib.hid r3
  clear et ez hR hv r1 r2 r3
  go_wp2_with fail
  refine c5.mono ?_
  rintro e w5 ⟨rfl, O6⟩
  have O6 : Own w w5 [⟨pc, s.size, ⟨.done (ls more), s.size, []⟩⟩, ⟨pd, s.size, R⟩] := by have := O6; exact this
  clear c5 O5
  have c6 := own_done O6 1 (p := pd) (most := s.size) (s := R) rfl
  rw [R2.out] at c6
  go_wp2_with fail
  refine c6.mono ?_
  rintro e w' ⟨rfl, rfl⟩
  clear c6
  have c7 := own_rest O6 1 (p := pd) (most := s.size) (s := R) rfl
  rw [R3.out, show tx [] = ⟨#[]⟩ from rfl] at c7
  go_wp2_with fail
  refine c7.mono ?_
  rintro e w' ⟨rfl, rfl⟩
  clear c7
  have c8 := own_take O6 1 (p := pd) (most := s.size) (s := R) rfl
  obtain ⟨t, ht⟩ : ∃ t, tx R.u = t := ⟨_, rfl⟩
  rw [ht] at c8
  have tz : t.size ≤ s.size := by rw [← ht, tx_size]; exact hRu
  have tx0 : s.extract 0 t.size = t := ls_inj (by
    rw [ls_extract, HV.out, ← ht, ls_tx, tx_size]
    simp)
  have HX := Lib.hid tx0
  clear ht tx0 hRu
  go_wp2_with fail
  refine c8.mono ?_
  rintro e w6 ⟨rfl, O7⟩
  have O7 : Own w w6 [⟨pc, s.size, ⟨.done (ls more), s.size, []⟩⟩, ⟨pd, s.size, taken R⟩] := O7
  clear c8 O6 k1
  have t1 : ¬ (s.size : Int) < (t.size : Int) := by omega
  have t2 : (t.size : Int) ≤ (s.size : Int) := by omega
  have t3 := HX.out
  have t4 : (t.toList != t.toList) = false := by simp
  have nil1 := fun w => add_nil ⟨#[]⟩ w
  have z0 : ((⟨#[]⟩ : ByteArray) ++ ⟨#[]⟩).toList = [] := by rw [ls_toList]; rfl
  have z1 : ((⟨#[]⟩ : ByteArray) ++ ⟨#[]⟩).toList.isEmpty = true := by rw [z0]; rfl
  go_upto_region 16 with (fail)
  clear t3 t4
  by_cases h0 : s.size = 0
  · have h1 := toList_nil s h0
    have bel := O7.bel
    clear HR HV R1 R2 R3 HX O7 h0
    go_wp2_with fail
    refine (nil1 _).mono ?_
    rintro e w' ⟨rfl, rfl⟩
    clear nil1
    go_wp2_with fail
    refine (take_nil _).mono ?_
    rintro e w' ⟨rfl, rfl⟩
    go_wp2_with fail
    refine (rest_nil _).mono ?_
    rintro e w' ⟨rfl, rfl⟩
    go_wp2_with fail
    refine (done_nil _).mono ?_
    rintro e w' ⟨rfl, rfl⟩
    go_wp2_with fail
    refine (size_nil _).mono ?_
    rintro e w' ⟨rfl, rfl⟩
    go_wp2
    go_ret
    exact ⟨rfl, bel⟩
  · have hp : 0 < s.size := by omega
    have h1 := toList_ne s hp
    have h2 := toList_ne' s hp
    obtain ⟨m, hm⟩ : ∃ m, s.size = m + 1 := ⟨s.size - 1, by omega⟩
    have sm : (s.size : Int) - 1 = (m : Int) := by omega
    obtain ⟨nE, uE, hE⟩ := HT.out.long m (by omega)
    have hE2 : run m init (ls W) = ⟨.err 4, nE, uE⟩ := hE
    have HE := Lib.hid hE2
    have HMM := Lib.hid hm
    clear h0 hE hE2 hm HR HV R1 R2 R3 HX
    go_wp2_with fail
    refine (HNW.out _ _ m (by have := HS.out; have := HMM.out; omega) O7).mono ?_
    rintro e w7 ⟨pf, rfl, O8⟩
    have O8 : Own w w7 [⟨pc, s.size, ⟨.done (ls more), s.size, []⟩⟩, ⟨pd, s.size, taken R⟩, ⟨pf, m, init⟩] := O8
    clear O7 t1 t2 tz
    have c9 := own_add O8 2 (p := pf) (most := m) (s := init) rfl (init_ok _) (by have := HS.out; have := HMM.out; omega) W (by omega) (by show 0 + W.size ≤ _; omega) (by show 0 + W.size ≤ _; omega)
    rw [HE.out] at c9
    go_wp2_with fail
    refine c9.mono ?_
    rintro e w8 ⟨rfl, O9⟩
    have O9 : Own w w8 [⟨pc, s.size, ⟨.done (ls more), s.size, []⟩⟩, ⟨pd, s.size, taken R⟩, ⟨pf, m, ⟨.err 4, nE, uE⟩⟩] := O9
    clear c9 O8
    have okE : CS.Ok m ⟨.err 4, nE, uE⟩ := by rw [← HE.out]; exact (init_ok m).run
    have uz : uE.length ≤ m := by have h1 := okE.u; have h2 := okE.n; simp only [Md.ahead] at h1 h2; omega
    have c10 := own_add O9 2 (p := pf) (most := m) (s := ⟨.err 4, nE, uE⟩) rfl okE (by have := HS.out; have := HMM.out; omega) ⟨#[109, 111, 114, 101]⟩ (by decide) (by have := HS.out; have := HMM.out; show uE.length + 4 ≤ _; omega) (by show 0 + 4 ≤ _; omega)
    rw [run_err] at c10
    clear okE uz
    rw [show (CS.md ⟨.err 4, nE, uE⟩).error = 4 from rfl] at c10 ⊢
    go_wp2_with fail
    refine c10.mono ?_
    rintro e w9 ⟨rfl, O10⟩
    have O10 : Own w w9 [⟨pc, s.size, ⟨.done (ls more), s.size, []⟩⟩, ⟨pd, s.size, taken R⟩, ⟨pf, m, ⟨.err 4, nE, uE⟩⟩] := O10
    clear c10 O9
    have c11 := own_done O10 2 (p := pf) (most := m) (s := ⟨.err 4, nE, uE⟩) rfl
    rw [show (CS.md ⟨.err 4, nE, uE⟩).isDone = false from rfl] at c11
    go_wp2_with fail
    refine c11.mono ?_
    rintro e w' ⟨rfl, rfl⟩
    clear c11
    have bel := O10.bel
    clear O10
    go_wp2_with fail
    refine (nil1 _).mono ?_
    rintro e w' ⟨rfl, rfl⟩
    clear nil1
    go_wp2_with fail
    refine (take_nil _).mono ?_
    rintro e w' ⟨rfl, rfl⟩
    go_wp2_with fail
    refine (rest_nil _).mono ?_
    rintro e w' ⟨rfl, rfl⟩
    go_wp2_with fail
    refine (done_nil _).mono ?_
    rintro e w' ⟨rfl, rfl⟩
    go_wp2_with fail
    refine (size_nil _).mono ?_
    rintro e w' ⟨rfl, rfl⟩
    go_wp2
    go_ret
    exact ⟨rfl, bel⟩
end Go.Proofs.YtjdfninaccaagaaDoor.Ch
