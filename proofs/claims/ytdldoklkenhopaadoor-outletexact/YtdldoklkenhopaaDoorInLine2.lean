/-
  Contract of Line of package inlet.
-/
import Derived.Test.YtdldoklkenhopaaDoorInLine
namespace Go.Proofs.YtdldoklkenhopaaDoor.In
open Go.RowKit Go.PlainAid
open Hx Fi Ch
set_option linter.unusedVariables false
set_option maxRecDepth 20000
set_option linter.unusedSimpArgs false

theorem lnC_of {s x y t v : ByteArray} (h1 : match cutB 32 (ls s) with | none => x = s ∧ y = ⟨#[]⟩ | some (m, r) => x = tx m ∧ y = tx r) (h2 : match cutB 32 (ls y) with | none => t = y ∧ v = ⟨#[]⟩ | some (m, r) => t = tx m ∧ v = tx r) : lnC (ls s) = (ls x, ls t, ls v) := by
  unfold lnC
  cases h : cutB 32 (ls s) with
  | none =>
    rw [h] at h1
    obtain ⟨rfl, rfl⟩ := h1
    have : cutB 32 (ls (⟨#[]⟩ : ByteArray)) = none := rfl
    rw [this] at h2
    obtain ⟨rfl, rfl⟩ := h2
    rfl
  | some p =>
    obtain ⟨m, r⟩ := p
    rw [h] at h1
    obtain ⟨rfl, rfl⟩ := h1
    rw [ls_tx] at h2
    simp only
    cases h3 : cutB 32 r with
    | none =>
      rw [h3] at h2
      obtain ⟨rfl, rfl⟩ := h2
      simp only [ls_tx]; rfl
    | some q =>
      obtain ⟨t', v'⟩ := q
      rw [h3] at h2
      obtain ⟨rfl, rfl⟩ := h2
      simp only [ls_tx]
set_option maxHeartbeats 4000000 in
theorem line_any (s : ByteArray) (w : World) (hs : s.size ≤ 1048576) :
    Calls Tryd.prog 15 #[.string s] w (LnPost (lnQ (ls s)) w) := by
  obtain ⟨x, y, b1, r1, hx, hy, hc1⟩ := cut_two s (by omega)
  obtain ⟨t, v, b2, r2, ht, hv, hc2⟩ := cut_two y (by omega)
  have r3 := fun w => digitsOf_any v w (by omega)
  rw [lnQ_cut, lnC_of hc1 hc2]
  simp only
  have r4 := fun w => isToken_any x w (by omega)
  have r5 := fun w => isTarget_any t w (by omega)
  have r6 := fun w => clone_any x w (by omega)
  have r7 := fun w => clone_any t w (by omega)
  clear hc1 hc2 hx hy ht hv hs
  cases hq : verF (ls v) with
  | none =>
    rw [hq] at r3
    simp only [dig_none] at r3
    simp only
    rw [ln_err]
    clear hq r4 r5 r6 r7
    go_enter Tryd.func15, Tryd.ntmps15
    go_wp2_with fail
    refine (r1 _).mono ?_
    rintro e w1 ⟨rfl, F1⟩
    clear r1
    go_wp2_with fail
    refine (r2 _).mono ?_
    rintro e w2 ⟨rfl, F2⟩
    replace F1 := F1.trans (F2.mono F1.size)
    clear r2 F2
    go_wp2_with fail
    refine (r3 _).mono ?_
    rintro e w3 ⟨rfl, F2⟩
    replace F1 := F1.trans (F2.mono F1.size)
    clear r3 F2
    go_wp2
    refine bodyPost_ret (results_tmp4 Tryd.results15 _ _ _) rfl ?_
    exact ⟨rfl, F1⟩
  | some ab =>
    obtain ⟨a, b⟩ := ab
    rw [hq] at r3
    simp only [dig_some] at r3
    simp only
    have ha : (48 ≤ (a.toNat : Int) ∧ (a.toNat : Int) ≤ 57) ∧ 48 ≤ (b.toNat : Int) ∧ (b.toNat : Int) ≤ 57 := by
      unfold verF at hq
      split at hq
      · rename_i h
        injection hq with hq
        injection hq with e1 e2
        rw [← e1, ← e2]
        obtain ⟨_, _, _, ⟨a1, a2⟩, a3, a4⟩ := h
        have a1 := (u8_le _ _).1 a1
        have a2 := (u8_le _ _).1 a2
        have a3 := (u8_le _ _).1 a3
        have a4 := (u8_le _ _).1 a4
        exact ⟨⟨a1, a2⟩, a3, a4⟩
      · cases hq
    clear hq
    cases hk : isTok (ls x) with
    | false =>
      rw [hk] at r4
      rw [if_neg (fun h => by cases h.1), ln_err]
      clear hk r5 r6 r7 ha
      go_enter Tryd.func15, Tryd.ntmps15
      go_wp2_with fail
      refine (r1 _).mono ?_
      rintro e w1 ⟨rfl, F1⟩
      clear r1
      go_wp2_with fail
      refine (r2 _).mono ?_
      rintro e w2 ⟨rfl, F2⟩
      replace F1 := F1.trans (F2.mono F1.size)
      clear r2 F2
      go_wp2_with fail
      refine (r3 _).mono ?_
      rintro e w3 ⟨rfl, F2⟩
      replace F1 := F1.trans (F2.mono F1.size)
      clear r3 F2
      go_wp2_with fail
      refine (r4 _).mono ?_
      rintro e w' ⟨rfl, rfl⟩
      clear r4
      go_wp2
      refine bodyPost_ret (results_tmp4 Tryd.results15 _ _ _) rfl ?_
      exact ⟨rfl, F1⟩
    | true =>
      rw [hk] at r4
      by_cases hg : ls t ≠ [] ∧ (ls t).all visB = true
      · rw [if_pos ⟨rfl, hg⟩]
        rw [decide_eq_true hg] at r5
        clear hk hg
        by_cases hm : a = 49 ∧ b ≤ 49
        · rw [if_pos hm, ln_ok, tx_ls, tx_ls]
          obtain ⟨rfl, hb⟩ := hm
          have hb := (u8_le _ _).1 hb
          have e49 : ((49 : UInt8).toNat : Int) = 49 := rfl
          rw [e49] at hb
          have eb : ((b.toNat - 48 : Nat) : Int) = (b.toNat : Int) - 48 := by omega
          rw [eb]
          have m1 : (((49 : UInt8).toNat : Int) - 48 != 1) = false := rfl
          obtain ⟨k, hk⟩ : ∃ k, (b.toNat : Int) - 48 = k := ⟨_, rfl⟩
          rw [hk] at r3 ⊢
          have m2 : ¬ 1 < k := by omega
          have e1 : ((49 : UInt8).toNat : Int) - 48 = 1 := rfl
          rw [e1] at r3
          clear ha hb eb hk m1 e1 e49
          go_enter Tryd.func15, Tryd.ntmps15
          go_wp2_with fail
          refine (r1 _).mono ?_
          rintro e w1 ⟨rfl, F1⟩
          clear r1
          go_wp2_with fail
          refine (r2 _).mono ?_
          rintro e w2 ⟨rfl, F2⟩
          replace F1 := F1.trans (F2.mono F1.size)
          clear r2 F2
          go_wp2_with fail
          refine (r3 _).mono ?_
          rintro e w3 ⟨rfl, F2⟩
          replace F1 := F1.trans (F2.mono F1.size)
          clear r3 F2
          go_wp2_with fail
          refine (r4 _).mono ?_
          rintro e w' ⟨rfl, rfl⟩
          clear r4
          go_wp2_with fail
          refine (r5 _).mono ?_
          rintro e w4 ⟨rfl, F2⟩
          replace F1 := F1.trans (F2.mono F1.size)
          clear r5 F2
          go_wp2_with fail
          refine (r6 _).mono ?_
          rintro e w5 ⟨rfl, F2⟩
          replace F1 := F1.trans (F2.mono F1.size)
          clear r6 F2
          go_wp2_with fail
          refine (r7 _).mono ?_
          rintro e w6 ⟨rfl, F2⟩
          replace F1 := F1.trans (F2.mono F1.size)
          clear r7 F2
          go_wp2
          refine bodyPost_ret (results_tmp4 Tryd.results15 _ _ _) rfl ?_
          exact ⟨rfl, F1⟩
        · rw [if_neg hm, ln_err]
          clear r6 r7
          by_cases h1 : a = 49
          · subst h1
            have h2 : ¬ (b.toNat : Int) ≤ 49 := fun h => hm ⟨rfl, (u8_le _ _).2 h⟩
            obtain ⟨k, hk⟩ : ∃ k, (b.toNat : Int) - 48 = k := ⟨_, rfl⟩
            rw [hk] at r3
            have m2 : 1 < k := by omega
            have e1 : ((49 : UInt8).toNat : Int) - 48 = 1 := rfl
            rw [e1] at r3
            clear hm h2 hk ha e1
            go_enter Tryd.func15, Tryd.ntmps15
            go_wp2_with fail
            refine (r1 _).mono ?_
            rintro e w1 ⟨rfl, F1⟩
            clear r1
            go_wp2_with fail
            refine (r2 _).mono ?_
            rintro e w2 ⟨rfl, F2⟩
            replace F1 := F1.trans (F2.mono F1.size)
            clear r2 F2
            go_wp2_with fail
            refine (r3 _).mono ?_
            rintro e w3 ⟨rfl, F2⟩
            replace F1 := F1.trans (F2.mono F1.size)
            clear r3 F2
            go_wp2_with fail
            refine (r4 _).mono ?_
            rintro e w' ⟨rfl, rfl⟩
            clear r4
            go_wp2_with fail
            refine (r5 _).mono ?_
            rintro e w4 ⟨rfl, F2⟩
            replace F1 := F1.trans (F2.mono F1.size)
            clear r5 F2
            go_wp2
            refine bodyPost_ret (results_tmp4 Tryd.results15 _ _ _) rfl ?_
            exact ⟨rfl, F1⟩
          · have h2 : ¬ (a.toNat : Int) = 49 := fun h => h1 ((u8_eq _ _).2 h)
            obtain ⟨k, hk⟩ : ∃ k, (a.toNat : Int) - 48 = k := ⟨_, rfl⟩
            rw [hk] at r3
            have m2 : (k != 1) = true := by rw [bne_iff_ne]; omega
            generalize (b.toNat : Int) - 48 = j at *
            clear hm h2 hk ha h1
            go_enter Tryd.func15, Tryd.ntmps15
            go_wp2_with fail
            refine (r1 _).mono ?_
            rintro e w1 ⟨rfl, F1⟩
            clear r1
            go_wp2_with fail
            refine (r2 _).mono ?_
            rintro e w2 ⟨rfl, F2⟩
            replace F1 := F1.trans (F2.mono F1.size)
            clear r2 F2
            go_wp2_with fail
            refine (r3 _).mono ?_
            rintro e w3 ⟨rfl, F2⟩
            replace F1 := F1.trans (F2.mono F1.size)
            clear r3 F2
            go_wp2_with fail
            refine (r4 _).mono ?_
            rintro e w' ⟨rfl, rfl⟩
            clear r4
            go_wp2_with fail
            refine (r5 _).mono ?_
            rintro e w4 ⟨rfl, F2⟩
            replace F1 := F1.trans (F2.mono F1.size)
            clear r5 F2
            go_wp2
            refine bodyPost_ret (results_tmp4 Tryd.results15 _ _ _) rfl ?_
            exact ⟨rfl, F1⟩
      · rw [if_neg (fun h => hg h.2), ln_err]
        rw [decide_eq_false hg] at r5
        clear hk hg r6 r7 ha
        go_enter Tryd.func15, Tryd.ntmps15
        go_wp2_with fail
        refine (r1 _).mono ?_
        rintro e w1 ⟨rfl, F1⟩
        clear r1
        go_wp2_with fail
        refine (r2 _).mono ?_
        rintro e w2 ⟨rfl, F2⟩
        replace F1 := F1.trans (F2.mono F1.size)
        clear r2 F2
        go_wp2_with fail
        refine (r3 _).mono ?_
        rintro e w3 ⟨rfl, F2⟩
        replace F1 := F1.trans (F2.mono F1.size)
        clear r3 F2
        go_wp2_with fail
        refine (r4 _).mono ?_
        rintro e w' ⟨rfl, rfl⟩
        clear r4
        go_wp2_with fail
        refine (r5 _).mono ?_
        rintro e w4 ⟨rfl, F2⟩
        replace F1 := F1.trans (F2.mono F1.size)
        clear r5 F2
        go_wp2
        refine bodyPost_ret (results_tmp4 Tryd.results15 _ _ _) rfl ?_
        exact ⟨rfl, F1⟩
end Go.Proofs.YtdldoklkenhopaaDoor.In
