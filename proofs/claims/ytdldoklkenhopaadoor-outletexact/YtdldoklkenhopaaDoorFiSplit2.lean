/-
  Contract of Split of package field: the head that a text begins with, or why there is none.
-/
import Derived.Test.YtdldoklkenhopaaDoorFiSplit
namespace Go.Proofs.YtdldoklkenhopaaDoor.Fi
open Go.RowKit Go.PlainAid
open Hx
set_option linter.unusedVariables false
set_option maxRecDepth 20000
set_option linter.unusedSimpArgs false

theorem results_tmp4 {fn : Func} {t u v x : Tmp} (h : fn.results = #[.tmp t, .tmp u, .tmp v, .tmp x]) (tmps : Array Value) (P : Program) (w : World) :
    (results fn tmps).run P w = .ok (.tuple #[tmps.getD t undef, tmps.getD u undef, tmps.getD v undef, tmps.getD x undef]) w := by
  simp [results, h]
theorem spl_st (s : List UInt8) : spl s = match stF (decide (4096 ≤ s.length)) (s.take 4096) with
    | .error e => ⟨e, [], [], 0⟩
    | .ok (x, r) =>
      let o := fldF (decide (4096 ≤ s.length)) r (x.length + 2) []
      ⟨o.err, if o.err = 0 then x else [], o.list, o.n⟩ := by
  unfold spl stF
  cases h : lineF (decide (4096 ≤ s.length)) (s.take 4096) with
  | error e => rfl
  | ok p =>
    obtain ⟨x, r⟩ := p
    simp only
    by_cases hx : x = []
    · rw [if_pos hx, if_pos hx]
    · rw [if_neg hx, if_neg hx]
      by_cases hc : 1024 < x.length
      · rw [if_pos hc, if_pos hc]
      · rw [if_neg hc, if_neg hc]
theorem stF_ok {full : Bool} {l x r : List UInt8} (h : stF full l = .ok (x, r)) : lineF full l = .ok (x, r) := by
  unfold stF at h
  cases hq : lineF full l with
  | error e => rw [hq] at h; cases h
  | ok p =>
    obtain ⟨y, z⟩ := p
    rw [hq] at h
    simp only at h
    split at h
    · cases h
    · split at h
      · cases h
      · simpa using h
theorem fldF_err0 (full : Bool) : ∀ (k : Nat) (l : List UInt8), l.length ≤ k → ∀ (at_ : Nat) (acc : List Fd), (fldF full l at_ acc).err ≠ 0 → fldF full l at_ acc = ⟨(fldF full l at_ acc).err, [], 0⟩ := by
  intro k
  induction k with
  | zero =>
    intro l hl at_ acc h
    have : l = [] := List.eq_nil_of_length_eq_zero (by omega)
    subst this
    rw [fldF_err at_ acc lineF_nil]
  | succ k ih =>
    intro l hl at_ acc h
    cases hq : lineF full l with
    | error e => rw [fldF_err at_ acc hq]
    | ok p =>
      obtain ⟨x, r⟩ := p
      have hlen := lineF_len hq
      by_cases hx : x = []
      · subst hx; rw [fldF_end at_ acc hq] at h; exact absurd rfl h
      · cases hp : parseF x with
        | none => rw [fldF_form at_ acc hq hx hp]
        | some f =>
          by_cases hc : acc.length = 32
          · rw [fldF_long at_ acc hq hx hp hc]
          · rw [fldF_step at_ acc hq hx hp hc] at h ⊢
            exact ih r (by omega) _ _ h
theorem stF_ne {full : Bool} {l : List UInt8} {e : Int} (h : stF full l = .error e) : e = 3 ∨ e = 4 ∨ e = 17 := by
  unfold stF at h
  cases hq : lineF full l with
  | error e' => rw [hq] at h; simp only [Except.error.injEq] at h; subst h; exact lineF_ne hq
  | ok p =>
    obtain ⟨y, z⟩ := p
    rw [hq] at h
    simp only at h
    split at h
    · cases h; omega
    · split at h
      · cases h; omega
      · cases h
def SplitPost (H : Hd) (w : World) (e : Ending) (w' : World) : Prop := ∃ v, e = .returned (.tuple #[.string (tx H.start), v, .int .i64 H.n, .int .i64 H.err]) ∧ FdsAt w' v H.list ∧ Below w.heap.size w w'
/-- and its fields lie in a block of its own -/
def SplitPostN (H : Hd) (w : World) (e : Ending) (w' : World) : Prop := ∃ v, e = .returned (.tuple #[.string (tx H.start), v, .int .i64 H.n, .int .i64 H.err]) ∧ FdsAt w' v H.list ∧ Below w.heap.size w w' ∧ ∀ b, v.ownBlock = some b → w.heap.size ≤ b
theorem split_badN {H : Hd} {er : Int} {w w' : World} (h : H = ⟨er, [], [], 0⟩) (hb : Below w.heap.size w w') : SplitPostN H w (.returned (.tuple #[.string ⟨#[]⟩, .slice none 0 0, .int .i64 0, .int .i64 er])) w' := by
  subst h
  exact ⟨_, rfl, none_fds _, hb, fun b h => by simp [Value.ownBlock] at h⟩
theorem split_bad {H : Hd} {er : Int} {w w' : World} (h : H = ⟨er, [], [], 0⟩) (hb : Below w.heap.size w w') : SplitPost H w (.returned (.tuple #[.string ⟨#[]⟩, .slice none 0 0, .int .i64 0, .int .i64 er])) w' := by
  subst h
  exact ⟨_, rfl, none_fds _, hb⟩
set_option maxHeartbeats 1000000 in
theorem split_short (s : ByteArray) (w : World) (hs : s.size ≤ 1099511627776) (hc : s.size ≤ 4096) :
    Calls Tryd.prog 13 #[.string s] w (SplitPostN (spl (ls s)) w) := by
  have hh : ls s = (ls s).take 4096 := by
    exact (List.take_of_length_le (by rw [ls_len]; exact hc)).symm
  have hz : s.size = s.size := rfl
  have hf : decide (s.size = 4096) = decide (4096 ≤ (ls s).length) := by
    rw [hz, ls_len]; exact decide_eq_decide.2 (by omega)
  have r1 : ∀ w, Calls Tryd.prog 21 #[.string s] w (StPost (decide (4096 ≤ (ls s).length)) ((ls s).take 4096) w) := fun w => by
    rw [← hf, ← hh]; exact startOf_any _ w (by rw [hz]; omega)
  have r2 : ∀ (k : Nat) w, k ≤ s.size → Calls Tryd.prog 22 #[.string s, .int .i64 k] w (FldPost (fldF (decide (4096 ≤ (ls s).length)) (((ls s).take 4096).drop k) k []) w) := fun k w hk => by
    rw [← hf, ← hh]; exact fieldsFrom_any _ k w (by rw [hz]; omega) hk
  rw [hz] at r2
  have hsp := spl_st (ls s)
  generalize hH : spl (ls s) = H at hsp
  have m1 : (s.size : Int) ≤ 4096 := by omega
  have hll : (List.take 4096 (ls s)).length = s.size := by rw [List.length_take, ls_len]; omega
  clear hh hz hf hH
  cases h : stF (decide (4096 ≤ (ls s).length)) ((ls s).take 4096) with
  | error e0 =>
    rw [h] at hsp
    have HS := Lib.hid hsp
    have hne := stF_ne h
    have g : (e0 != 0) = true := by rw [bne_iff_ne]; omega
    have H1 := Lib.hid h
    clear h hsp hne r2 hll
    go_enter Tryd.func13, Tryd.ntmps13
    go_wp2_with fail
    refine (r1 _).mono ?_
    rintro e w1 ⟨hp, G⟩
    clear r1
    rcases hp with ⟨x, r, h2, _⟩ | ⟨e1, h2, rfl⟩
    · have := H1.out; rw [h2] at this; cases this
    obtain rfl : e1 = e0 := by
      have := H1.out
      rw [h2] at this
      cases this; rfl
    clear h2
    go_wp2
    refine bodyPost_ret (results_tmp4 Tryd.results13 _ _ _) rfl ?_
    exact split_badN HS.out G
  | ok p =>
    obtain ⟨x, r⟩ := p
    rw [h] at hsp
    simp only at hsp
    have hlin := (lineF_ok (stF_ok h)).1
    have hlen := lineF_len (stF_ok h)
    rw [hll] at hlen
    have hdr : (List.take 4096 (ls s)).drop (x.length + 2) = r := by
      rw [hlin, show x ++ 13 :: 10 :: r = (x ++ [13, 10]) ++ r by simp, List.drop_left' (by simp)]
    have r3 := fun w => r2 (x.length + 2) w (by omega)
    rw [hdr] at r3
    generalize hO : fldF (decide (4096 ≤ (ls s).length)) r (x.length + 2) [] = O at r3 hsp
    have hoe : O.err ≠ 0 → O = ⟨O.err, [], 0⟩ := by rw [← hO]; exact fldF_err0 _ _ _ (Nat.le_refl _) _ _
    have H1 := Lib.hid h
    have HL := Lib.hid hlen
    clear h r2 hll hlin hlen hdr hO
    have hxl : x.length + 2 ≤ 4096 := by have := HL.out; omega
    have cl := fun w => clone_any (tx x) w (by rw [tx_size]; omega)
    by_cases ho : O.err = 0
    · rw [if_pos ho] at hsp
      have HS := Lib.hid hsp
      have HO := Lib.hid ho
      clear hsp hoe ho
      go_enter Tryd.func13, Tryd.ntmps13
      go_wp2_with fail
      refine (r1 _).mono ?_
      rintro e w1 ⟨hp, G⟩
      clear r1
      rcases hp with ⟨x2, r', h2, rfl⟩ | ⟨e1, h2, _⟩
      rotate_left
      · have := H1.out; rw [h2] at this; cases this
      obtain ⟨rfl, rfl⟩ : x2 = x ∧ r' = r := by
        have := H1.out
        rw [h2] at this
        cases this; exact ⟨rfl, rfl⟩
      clear h2
      generalize hX : tx x2 = X at cl
      have HX := Lib.hid hX
      clear hX
      go_wp2_with fail
      refine (r3 _).mono ?_
      rintro e w2 ⟨v, rfl, V, G2, VN⟩
      rw [HO.out]
      have HVN := Lib.hid (fun b h => Nat.le_trans G.size (VN b h))
      clear VN
      replace G := G.trans (G2.mono G.size)
      clear r3 G2
      obtain ⟨base, cap, rfl, hcap, hcl⟩ := V.is
      have HV := Lib.hid V
      clear hcap hcl V
      go_wp2_with fail
      refine (cl _).mono ?_
      rintro e w3 ⟨rfl, G3⟩
      have V3 := HV.out.below G3
      replace G := G.trans (G3.mono G.size)
      clear cl G3 HV
      go_wp2
      refine bodyPost_ret (results_tmp4 Tryd.results13 _ _ _) rfl ?_
      exact ⟨_, by rw [HS.out]; simp only; rw [HO.out, HX.out]; rfl, by rw [HS.out]; exact V3, G, HVN.out⟩
    · have e2 := hoe ho
      rw [if_neg ho] at hsp
      have HS := Lib.hid (show H = ⟨O.err, [], [], 0⟩ by rw [hsp, e2])
      have g : (O.err != 0) = true := by rw [bne_iff_ne]; exact ho
      clear hsp hoe ho e2 cl
      go_enter Tryd.func13, Tryd.ntmps13
      go_wp2_with fail
      refine (r1 _).mono ?_
      rintro e w1 ⟨hp, G⟩
      clear r1
      rcases hp with ⟨x2, r', h2, rfl⟩ | ⟨e1, h2, _⟩
      rotate_left
      · have := H1.out; rw [h2] at this; cases this
      obtain ⟨rfl, rfl⟩ : x2 = x ∧ r' = r := by
        have := H1.out
        rw [h2] at this
        cases this; exact ⟨rfl, rfl⟩
      clear h2
      generalize tx x2 = X
      go_wp2_with fail
      refine (r3 _).mono ?_
      rintro e w2 ⟨v, rfl, V, G2, _⟩
      replace G := G.trans (G2.mono G.size)
      clear r3 G2 V
      go_wp2
      refine bodyPost_ret (results_tmp4 Tryd.results13 _ _ _) rfl ?_
      exact split_badN HS.out G
set_option maxHeartbeats 1000000 in
theorem split_long (s : ByteArray) (w : World) (hs : s.size ≤ 1099511627776) (hc : 4096 < s.size) :
    Calls Tryd.prog 13 #[.string s] w (SplitPostN (spl (ls s)) w) := by
  have hh : ls (s.extract 0 4096) = (ls s).take 4096 := by
    rw [ls_extract, List.drop_zero]
  have hz : (s.extract 0 4096).size = 4096 := by
    have := congrArg List.length hh
    rw [ls_len, List.length_take, ls_len] at this
    omega
  have hf : decide ((s.extract 0 4096).size = 4096) = decide (4096 ≤ (ls s).length) := by
    rw [hz, ls_len]; exact decide_eq_decide.2 (by omega)
  have r1 : ∀ w, Calls Tryd.prog 21 #[.string (s.extract 0 4096)] w (StPost (decide (4096 ≤ (ls s).length)) ((ls s).take 4096) w) := fun w => by
    rw [← hf, ← hh]; exact startOf_any _ w (by rw [hz]; omega)
  have r2 : ∀ (k : Nat) w, k ≤ (s.extract 0 4096).size → Calls Tryd.prog 22 #[.string (s.extract 0 4096), .int .i64 k] w (FldPost (fldF (decide (4096 ≤ (ls s).length)) (((ls s).take 4096).drop k) k []) w) := fun k w hk => by
    rw [← hf, ← hh]; exact fieldsFrom_any _ k w (by rw [hz]; omega) hk
  rw [hz] at r2
  have hsp := spl_st (ls s)
  generalize hH : spl (ls s) = H at hsp
  have m1 : ¬ (s.size : Int) ≤ 4096 := by omega
  have m2 : (4096 : Int) ≤ (s.size : Int) := by omega
  have hll : (List.take 4096 (ls s)).length = 4096 := by rw [List.length_take, ls_len]; omega
  clear hh hz hf hH
  cases h : stF (decide (4096 ≤ (ls s).length)) ((ls s).take 4096) with
  | error e0 =>
    rw [h] at hsp
    have HS := Lib.hid hsp
    have hne := stF_ne h
    have g : (e0 != 0) = true := by rw [bne_iff_ne]; omega
    have H1 := Lib.hid h
    clear h hsp hne r2 hll
    go_enter Tryd.func13, Tryd.ntmps13
    go_wp2_with fail
    refine (r1 _).mono ?_
    rintro e w1 ⟨hp, G⟩
    clear r1
    rcases hp with ⟨x, r, h2, _⟩ | ⟨e1, h2, rfl⟩
    · have := H1.out; rw [h2] at this; cases this
    obtain rfl : e1 = e0 := by
      have := H1.out
      rw [h2] at this
      cases this; rfl
    clear h2
    go_wp2
    refine bodyPost_ret (results_tmp4 Tryd.results13 _ _ _) rfl ?_
    exact split_badN HS.out G
  | ok p =>
    obtain ⟨x, r⟩ := p
    rw [h] at hsp
    simp only at hsp
    have hlin := (lineF_ok (stF_ok h)).1
    have hlen := lineF_len (stF_ok h)
    rw [hll] at hlen
    have hdr : (List.take 4096 (ls s)).drop (x.length + 2) = r := by
      rw [hlin, show x ++ 13 :: 10 :: r = (x ++ [13, 10]) ++ r by simp, List.drop_left' (by simp)]
    have r3 := fun w => r2 (x.length + 2) w (by omega)
    rw [hdr] at r3
    generalize hO : fldF (decide (4096 ≤ (ls s).length)) r (x.length + 2) [] = O at r3 hsp
    have hoe : O.err ≠ 0 → O = ⟨O.err, [], 0⟩ := by rw [← hO]; exact fldF_err0 _ _ _ (Nat.le_refl _) _ _
    have H1 := Lib.hid h
    have HL := Lib.hid hlen
    clear h r2 hll hlin hlen hdr hO
    have hxl : x.length + 2 ≤ 4096 := by have := HL.out; omega
    have cl := fun w => clone_any (tx x) w (by rw [tx_size]; omega)
    by_cases ho : O.err = 0
    · rw [if_pos ho] at hsp
      have HS := Lib.hid hsp
      have HO := Lib.hid ho
      clear hsp hoe ho
      go_enter Tryd.func13, Tryd.ntmps13
      go_wp2_with fail
      refine (r1 _).mono ?_
      rintro e w1 ⟨hp, G⟩
      clear r1
      rcases hp with ⟨x2, r', h2, rfl⟩ | ⟨e1, h2, _⟩
      rotate_left
      · have := H1.out; rw [h2] at this; cases this
      obtain ⟨rfl, rfl⟩ : x2 = x ∧ r' = r := by
        have := H1.out
        rw [h2] at this
        cases this; exact ⟨rfl, rfl⟩
      clear h2
      generalize hX : tx x2 = X at cl
      have HX := Lib.hid hX
      clear hX
      go_wp2_with fail
      refine (r3 _).mono ?_
      rintro e w2 ⟨v, rfl, V, G2, VN⟩
      rw [HO.out]
      have HVN := Lib.hid (fun b h => Nat.le_trans G.size (VN b h))
      clear VN
      replace G := G.trans (G2.mono G.size)
      clear r3 G2
      obtain ⟨base, cap, rfl, hcap, hcl⟩ := V.is
      have HV := Lib.hid V
      clear hcap hcl V
      go_wp2_with fail
      refine (cl _).mono ?_
      rintro e w3 ⟨rfl, G3⟩
      have V3 := HV.out.below G3
      replace G := G.trans (G3.mono G.size)
      clear cl G3 HV
      go_wp2
      refine bodyPost_ret (results_tmp4 Tryd.results13 _ _ _) rfl ?_
      exact ⟨_, by rw [HS.out]; simp only; rw [HO.out, HX.out]; rfl, by rw [HS.out]; exact V3, G, HVN.out⟩
    · have e2 := hoe ho
      rw [if_neg ho] at hsp
      have HS := Lib.hid (show H = ⟨O.err, [], [], 0⟩ by rw [hsp, e2])
      have g : (O.err != 0) = true := by rw [bne_iff_ne]; exact ho
      clear hsp hoe ho e2 cl
      go_enter Tryd.func13, Tryd.ntmps13
      go_wp2_with fail
      refine (r1 _).mono ?_
      rintro e w1 ⟨hp, G⟩
      clear r1
      rcases hp with ⟨x2, r', h2, rfl⟩ | ⟨e1, h2, _⟩
      rotate_left
      · have := H1.out; rw [h2] at this; cases this
      obtain ⟨rfl, rfl⟩ : x2 = x ∧ r' = r := by
        have := H1.out
        rw [h2] at this
        cases this; exact ⟨rfl, rfl⟩
      clear h2
      generalize tx x2 = X
      go_wp2_with fail
      refine (r3 _).mono ?_
      rintro e w2 ⟨v, rfl, V, G2, _⟩
      replace G := G.trans (G2.mono G.size)
      clear r3 G2 V
      go_wp2
      refine bodyPost_ret (results_tmp4 Tryd.results13 _ _ _) rfl ?_
      exact split_badN HS.out G
theorem split_anyN (s : ByteArray) (w : World) (hs : s.size ≤ 1099511627776) :
    Calls Tryd.prog 13 #[.string s] w (SplitPostN (spl (ls s)) w) := by
  by_cases hc : s.size ≤ 4096
  · exact split_short s w hs hc
  · exact split_long s w hs (by omega)
theorem split_any (s : ByteArray) (w : World) (hs : s.size ≤ 1099511627776) :
    Calls Tryd.prog 13 #[.string s] w (SplitPost (spl (ls s)) w) :=
  (split_anyN s w hs).mono fun _ _ ⟨v, a, b, c, _⟩ => ⟨v, a, b, c⟩
end Go.Proofs.YtdldoklkenhopaaDoor.Fi
