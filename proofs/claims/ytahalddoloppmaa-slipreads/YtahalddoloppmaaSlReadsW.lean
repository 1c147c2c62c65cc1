/-
  SlipReads, walked.
-/
import Derived.Test.YtahalddoloppmaaSlRef7
import Derived.Test.YtahalddoloppmaaSlAwake
import Derived.Test.YtahalddoloppmaaSlOpen
namespace Go.Proofs.Ytahalddoloppmaa.Sl
open Go.RowKit Go.PlainAid Go.Proofs.Ytahalddoloppmaa.Cr
set_option linter.unusedVariables false
set_option linter.unusedSimpArgs false

/-- what is held: both slips, both lists -/
structure Sr (w0 w : World) (X Y : Nat) (x : Sp) (va vb : Value) (xs : List Sp) : Prop where
  x1 : At w X 25 (slV x)
  x2 : At w Y 25 (slV x)
  a : SlsAt w va xs
  b : SlsAt w vb xs
  bel : Below w0.heap.size w0 w
theorem Sr.below {w0 w w' : World} {X Y : Nat} {x : Sp} {va vb : Value} {xs : List Sp} (h : Sr w0 w X Y x va vb xs) (hb : Below w.heap.size w w') : Sr w0 w' X Y x va vb xs := ⟨h.x1.old hb, h.x2.old hb, h.a.below hb, h.b.below hb, h.bel.trans (hb.mono h.bel.size)⟩
theorem Sr.drew {w0 w : World} {X Y : Nat} {x : Sp} {va vb : Value} {xs : List Sp} (h : Sr w0 w X Y x va vb xs) : Sr w0 w.drew X Y x va vb xs := h.below ((Below.refl _ _).drew)
theorem reads_len {l : List Nat} {xs : List Sp} {m : Nat} (h : Reads l xs m) : 6 * xs.length ≤ l.length := by
  induction h with
  | stop _ => simp
  | more h r ih =>
    obtain ⟨_, k, hk, h6, hkl⟩ := rd_ok h
    rw [hk, Int.toNat_natCast, List.length_drop] at ih
    rw [List.length_cons]
    omega
theorem rd_digs (l : List Nat) : Dig (RD l).1.dig := by
  by_cases c : (RD l).2.2 = 0
  · exact (rd_ok c).1.dig
  · rw [(rd_err c).1]
    exact zeros_dig
set_option maxRecDepth 100000 in
set_option maxHeartbeats 2000000 in
theorem reads_fn (s : ByteArray) (w : World) (hz : s.size ≤ 1000000) :
    Calls Try.prog 14 #[.string s] w fun e w' => e = .returned (.bool true) ∧ Below w.heap.size w w' := by
  go_enter Try.func14, Try.ntmps14
  go_wp2_with fail
  refine (read_any s _ (by omega)).mono ?_
  rintro e w1 ⟨rfl, F⟩
  have zd : Dig (RD (bl s)).1.dig := rd_digs _
  have zdl : (RD (bl s)).1.dig.length = 32 := rd_dig _
  have RR := rread_any s (hz := hz)
  generalize (RD (bl s)).2.2 = c at RR ⊢
  generalize (RD (bl s)).2.1 = n at RR ⊢
  generalize (RD (bl s)).1 = x at RR zdl zd ⊢
  have HRR := Lib.hid RR
  clear RR
  obtain ⟨w2, S2, X1, G2, Z2⟩ := x_keep w1 zdl
  replace F := F.trans (G2.mono F.size)
  clear G2 Z2
  go_upto_region 2 with (refine wpl_store S2 rfl rfl rfl rfl rfl ?_)
  clear S2
  generalize w1.heap.size = X at X1 ⊢
  go_wp2_with fail
  refine (HRR.out _).mono ?_
  rintro e w3 ⟨rfl, G⟩
  replace X1 := X1.old G
  replace F := F.trans (G.mono F.size)
  clear G HRR
  obtain ⟨w4, S4, X2, G4, Z4⟩ := x_keep w3 zdl
  replace X1 := X1.old G4
  replace F := F.trans (G4.mono F.size)
  clear G4 Z4
  go_upto_region 3 with (refine wpl_store S4 rfl rfl rfl rfl rfl ?_)
  clear S4
  generalize w3.heap.size = Y at X2 ⊢
  go_wp2_with fail
  refine (all_any s _ (by omega)).mono ?_
  rintro e w5 ⟨xs, m, va, rfl, A1, R1, G⟩
  replace X1 := X1.old G
  replace X2 := X2.old G
  replace F := F.trans (G.mono F.size)
  clear G
  go_wp2_with fail
  refine (rall_any s _ hz).mono ?_
  rintro e w6 ⟨ys, m', vb, rfl, A2, R2, G⟩
  obtain ⟨rfl, rfl⟩ := reads_one R1 R2
  have hl : xs.length ≤ 1099511627776 := by have := reads_len R1; rw [bl_len] at this; omega
  have J0 : Sr w w6 X Y x va vb xs := ⟨X1.old G, X2.old G, A1.below G, A2, F.trans (G.mono F.size)⟩
  clear X1 X2 A1 A2 F G R1 R2
  have q1 := eq_slip zd zd
  rw [@decide_eq_true _ (Classical.propDecidable _) rfl] at q1
  have L1 := sl_loads J0.x1 zdl
  have L2 := sl_loads J0.x2 zdl
  go_wp2_with (first | refine wpl_load L1 rfl rfl rfl ?_ | refine wpl_load L2 rfl rfl rfl ?_)
  refine (same_any J0.a J0.b hl hl).mono ?_
  rintro e v1 ⟨rfl, hg⟩
  rw [sameB_yes rfl]
  have J1 := J0.below hg
  clear hg J0 L1 L2
  go_wp2
  go_ret
  exact ⟨rfl, J1.bel⟩
set_option maxHeartbeats 2000000 in
theorem reads_walk (s : ByteArray) (w : World) :
    Calls Try.prog 4 #[.string s] w fun e w' => e = .returned (.bool true) ∧ Below w.heap.size w w' := by
  by_cases c1 : 8192 < s.size
  · have l1 : (8192 : Int) < (s.size : Int) := by omega
    go_enter Try.func4, Try.ntmps4
    go_wp2_with fail
    refine (awake_any _).mono ?_
    rintro e w1 ⟨rfl, F⟩
    go_wp2
    go_ret
    exact ⟨rfl, F⟩
  · have l1 : ¬ (8192 : Int) < (s.size : Int) := by omega
    by_cases c2 : 0 < s.size ∧ s.size ≤ 1024
    · have l2 : (0 : Int) < (s.size : Int) := by omega
      have l3 : (s.size : Int) ≤ 1024 := by omega
      obtain ⟨f, hf⟩ : ∃ f, f = strOf (recL (bl s)) := ⟨_, rfl⟩
      have fz : f.size ≤ 1030 := by rw [hf, strOf_size, rec_len, bl_len]; omega
      have hz : (f ++ s).size ≤ 1000000 := by rw [ByteArray.size_append]; omega
      have HF := Lib.hid hf
      clear hf
      go_enter Try.func4, Try.ntmps4
      go_wp2_with fail
      refine (awake_any _).mono ?_
      rintro e w1 ⟨rfl, F⟩
      go_wp2_with fail
      refine (framed_any s _ (by omega)).mono ?_
      rintro e w2 ⟨rfl, G⟩
      rw [← HF.out]
      replace F := F.trans (G.mono F.size)
      clear G
      go_wp2_with fail
      refine (reads_fn (f ++ s) _ hz).mono ?_
      rintro e w3 ⟨rfl, G⟩
      replace F := F.trans (G.mono F.size)
      clear G
      go_wp2_with fail
      refine (reads_fn s _ (by omega)).mono ?_
      rintro e w4 ⟨rfl, G⟩
      replace F := F.trans (G.mono F.size)
      clear G
      go_wp2
      go_ret
      exact ⟨rfl, F⟩
    · go_enter Try.func4, Try.ntmps4
      go_wp2_with fail
      refine (awake_any _).mono ?_
      rintro e w1 ⟨rfl, F⟩
      by_cases c3 : 0 < s.size
      · have l2 : (0 : Int) < (s.size : Int) := by omega
        have l3 : ¬ (s.size : Int) ≤ 1024 := by omega
        go_wp2_with fail
        refine (reads_fn s _ (by omega)).mono ?_
        rintro e w4 ⟨rfl, G⟩
        replace F := F.trans (G.mono F.size)
        clear G
        go_wp2
        go_ret
        exact ⟨rfl, F⟩
      · have l2 : ¬ (0 : Int) < (s.size : Int) := by omega
        go_wp2_with fail
        refine (reads_fn s _ (by omega)).mono ?_
        rintro e w4 ⟨rfl, G⟩
        replace F := F.trans (G.mono F.size)
        clear G
        go_wp2
        go_ret
        exact ⟨rfl, F⟩
end Go.Proofs.Ytahalddoloppmaa.Sl
