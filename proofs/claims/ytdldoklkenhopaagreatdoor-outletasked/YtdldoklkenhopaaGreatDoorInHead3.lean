/-
  Contract of readHead.
-/
import Derived.Test.YtdldoklkenhopaaGreatDoorInHead2
namespace Go.Proofs.YtdldoklkenhopaaGreatDoor.In
open Go.RowKit Go.PlainAid
open Hx Fi Ch
set_option linter.unusedVariables false
set_option maxRecDepth 20000
set_option linter.unusedSimpArgs false

theorem asked_is {c : I} {l : List UInt8} (h : Hea c l) (h17 : (spl l).err = 17) : IsAt (askedAll c) l 0 :=
  .head ⟨h.wr, h.st, h.rd, h.l2, c.l2.length, rfl, by rw [h.l2]; exact Nat.le_refl _, by rw [h.l2, List.take_length]; exact h17⟩
theorem rank3 {c : I} {l : List UInt8} (h : Hea c l) : rank c = 3 := by unfold rank; rw [if_pos h.st]
theorem sized_is {c : I} {l : List UInt8} (h : Hea c l) {q : Rq} {f : Fr} (he : (spl l).err = 0) (hq : headQ (spl l) = .ok (q, f)) (hc : f.c = false) : IsAt (passed { askedAll c with st := 1, due := (f.n.toNat : Int), q := q } (spl l).n) l 0 := by
  have hn := spl_n l
  have ht : (l.take (spl l).n).length = (spl l).n := by rw [List.length_take]; omega
  refine .body (l.take (spl l).n) f { wr := h.wr, ll := ?_, rd := ?_, e := he, n := by omega, q := hq, st := rfl, fc := hc, due := ⟨f.n.toNat, rfl, by omega⟩ }
  · show l = l.take (spl l).n ++ c.l2.drop (spl l).n
    rw [h.l2, List.take_append_drop]
  · show c.rd + ((spl l).n : Int) = _
    rw [h.rd, ht]; omega
theorem chunked_is {c : I} {l : List UInt8} (h : Hea c l) {q : Rq} {f : Fr} (he : (spl l).err = 0) (hq : headQ (spl l) = .ok (q, f)) (hc : f.c = true) : IsAt (passed { askedAll c with st := 2, R := some init, q := q } (spl l).n) l 0 := by
  have hn := spl_n l
  have ht : (l.take (spl l).n).length = (spl l).n := by rw [List.length_take]; omega
  have hd : (l.take (spl l).n).drop (spl l).n = [] := List.drop_of_length_le (by omega)
  refine .chunks (l.take (spl l).n) f { wr := h.wr, ll := ?_, rd := ?_, e := he, n := by omega, q := hq, st := rfl, fc := hc, R := ?_, more := ?_ }
  · show l = l.take (spl l).n ++ c.l2.drop (spl l).n
    rw [h.l2, List.take_append_drop]
  · show c.rd + ((spl l).n : Int) = _
    rw [h.rd, ht]; omega
  · rw [hd]; rfl
  · rw [hd]; exact ⟨rfl, rfl⟩
def StepPost (w : World) (p : Nat) (Z : Nat → Prop) (c : I) (l : List UInt8) (e : Ending) (w' : World) : Prop := ∃ b c', e = .returned (.bool b) ∧ Post w w' p Z c' ∧ Stp c l b c'
section
variable {w : World} {p : Nat} {Z : Nat → Prop} {c : I}
set_option maxHeartbeats 2000000 in
theorem head_any (h : Has w p Z c) {l : List UInt8} (hh : Hea c l) (hm : l.length ≤ 1048576) :
    Calls Tryz.prog 17 #[.pointer (some ⟨p, 0, none⟩)] w (StepPost w p Z c l) := by
  obtain ⟨a, ha, hal, ha17⟩ := hh.asked
  have M := may_any h ha (by rw [hh.l2]; exact hal) (by rw [hh.l2]; exact hm)
  have l2 := hh.l2
  have er := (spl_small l).2
  have sh := spl_short2 l
  have sst := spl_start l
  have sn := spl_n l
  have hrd := hh.rd
  by_cases hmay : (10 : UInt8) ∈ c.l2.drop a ∨ 4096 ≤ c.l2.length
  · rw [decide_eq_true hmay] at M
    have SPL : ∀ w1, Calls Tryz.prog 35 #[.string (tx c.l2)] w1 (SplitPostN (spl l) w1) := fun w1 => by
      have := split_anyN (tx c.l2) w1 (by rw [tx_size, l2]; omega)
      rw [ls_tx] at this
      rw [l2] at this ⊢
      exact this
    have rf : ∀ w2 Z2, Has w2 p Z2 (askedAll c) → ∀ st, Calls Tryz.prog 36 #[.pointer (some ⟨p, 0, none⟩), .int .i64 st] w2 fun e w' => e = .returned (.bool false) ∧ Post w2 w' p Z2 (refused (askedAll c) st) := fun w2 Z2 h2 st => refuse_any h2 st (n := l.length) (by show c.rd + (c.l2.length : Int) = _; rw [hrd, l2]; omega) (by show 0 ≤ c.rd; omega) hm
    have RF := Lib.hid rf
    have bad : ∀ st, rdF l = .bad st → Stp c l false (refused (askedAll c) st) := fun st hb => by
      show (if false = true then _ else _)
      rw [if_neg (by simp)]
      exact .inr ⟨st, hb, refused_is (by show c.rd + (c.l2.length : Int) = _; rw [hrd, l2]; omega) (rd_bad_ne hb).1⟩
    have BAD := Lib.hid bad
    clear rf bad hmay ha17
    by_cases h17 : (spl l).err = 17
    · have ST : Hid (Stp c l false (askedAll c)) := Lib.hid (by
        show (if false = true then _ else _)
        rw [if_neg (by simp)]
        exact .inl ⟨rd_short h17, asked_is hh h17⟩)
      have H17 := Lib.hid h17
      clear RF BAD ha hal hrd h er sh sst sn hm hh h17
      go_enter Tryz.func17, Tryz.ntmps17
      go_wp2_with fail
      refine M.mono ?_
      rintro e w1 ⟨rfl, Z1, h1, G1⟩
      clear M
      obtain ⟨o1, k1, d1, cv⟩ := h1.c1
      have SP := SPL w1
      clear SPL
      go_wp2_with fail
      refine SP.mono ?_
      rintro e w2 ⟨v, rfl, FV, B2, N2⟩
      clear SP d1 cv
      have HFV := Lib.hid FV
      have HN2 := Lib.hid N2
      have h2 := h1.old B2
      replace G1 := G1.trans (Goes.of_below B2 Z1)
      obtain ⟨bv, kv, rfl, _, _⟩ := FV.is
      clear FV N2
      rw [H17.out]
      generalize tx (spl l).start = X at *
      generalize (spl l).n = n at *
      go_wp2
      go_ret
      exact ⟨false, _, rfl, ⟨Z1, h2, G1⟩, ST.out⟩
    · by_cases h0 : (spl l).err = 0
      · cases hq : headQ (spl l) with
        | error st =>
          have bg := fun (w2 : World) (v : Value) (hv : FdsAt w2 v (spl l).list) => begin_bad (w := w2) (p := p) hq hv sh sst
          have hne : st ≠ 0 := (rd_bad_ne (rd_bad h0 hq)).1
          have g : (st != 0) = true := by rw [bne_iff_ne]; exact hne
          have BD := Lib.hid (BAD.out st (rd_bad h0 hq))
          have BG := Lib.hid bg
          have H0 := Lib.hid h0
          clear BAD ha hal hrd h er sh sst sn hm hh h17 bg hq h0 hne
          go_enter Tryz.func17, Tryz.ntmps17
          go_wp2_with fail
          refine M.mono ?_
          rintro e w1 ⟨rfl, Z1, h1, G1⟩
          clear M
          obtain ⟨o1, k1, d1, cv⟩ := h1.c1
          have SP := SPL w1
          clear SPL
          go_wp2_with fail
          refine SP.mono ?_
          rintro e w2 ⟨v, rfl, FV, B2, N2⟩
          clear SP d1 cv
          have HFV := Lib.hid FV
          have HN2 := Lib.hid N2
          have h2 := h1.old B2
          replace G1 := G1.trans (Goes.of_below B2 Z1)
          obtain ⟨bv, kv, rfl, _, _⟩ := FV.is
          clear FV N2
          rw [H0.out]
          have B := BG.out w2 _ HFV.out
          clear BG HFV HN2
          generalize tx (spl l).start = X at *
          generalize (spl l).n = n at *
          go_wp2_with fail
          refine B.mono ?_
          rintro e w3 ⟨rfl, B3⟩
          have R3 := RF.out w3 Z1 (h2.old B3) st
          replace G1 := G1.trans (Goes.of_below B3 Z1)
          clear B B3 RF
          go_wp2_with fail
          refine R3.mono ?_
          rintro e w4 ⟨rfl, P4⟩
          clear R3
          go_wp2
          go_ret
          exact ⟨false, _, rfl, Post.trans G1 P4, BD.out⟩
        | ok pr =>
          obtain ⟨q, f⟩ := pr
          have ps : ∀ (w3 : World) (Z3 : Nat → Prop) (c3 : I), Has w3 p Z3 c3 → c3.l2 = l → c3.rd = 0 → Calls Tryz.prog 39 #[.pointer (some ⟨p, 0, none⟩), .int .i64 ((spl l).n : Int)] w3 fun e w' => e = .returned (.tuple #[]) ∧ Post w3 w' p Z3 (passed c3 (spl l).n) := fun w3 Z3 c3 h3 e1 e2 => pass_any h3 (spl l).n (by rw [e1]; exact sn) (by omega) (by rw [e1]; omega)
          have PS := Lib.hid ps
          clear ps
          have el : (askedAll c).l2 = l := l2
          have erd : (askedAll c).rd = 0 := hrd
          have HEL := Lib.hid el
          have HERD := Lib.hid erd
          clear el erd
          by_cases hc : f.c = true
          · have ST : Hid (Stp c l true (passed { askedAll c with st := 2, R := some init, q := q } (spl l).n)) := Lib.hid (by
              show (if true = true then _ else _)
              rw [if_pos rfl]
              exact ⟨chunked_is hh h0 hq hc, by rw [rank3 hh]; show (1 : Nat) < 3; omega⟩)
            have bg := fun (w2 : World) (v : Value) (Z2 : Nat → Prop) (h2 : Has w2 p Z2 (askedAll c)) (hv : FdsAt w2 v (spl l).list) (hn : ∀ b, FB v (spl l).list b → ¬ Z2 b) (g0 : Goes w w2 Z Z2) (hn0 : ∀ b, FB v (spl l).list b → w.heap.size ≤ b) => begin_chunked h2 hq hc hv hn sh sst g0 hn0
            have BG := Lib.hid bg
            have H0 := Lib.hid h0
            clear BAD RF ha hal hrd h er sh sst sn hm hh h17 bg hq h0 hc
            go_enter Tryz.func17, Tryz.ntmps17
            go_wp2_with fail
            refine M.mono ?_
            rintro e w1 ⟨rfl, Z1, h1, G1⟩
            clear M
            have sz1 := G1.size
            have lt1 := Lib.hid h1.lt
            obtain ⟨o1, k1, d1, cv⟩ := h1.c1
            have SP := SPL w1
            clear SPL
            go_wp2_with fail
            refine SP.mono ?_
            rintro e w2 ⟨v, rfl, FV, B2, N2⟩
            clear SP d1 cv
            have HFV := Lib.hid FV
            have HN2 := Lib.hid N2
            have h2 := h1.old B2
            replace G1 := G1.trans (Goes.of_below B2 Z1)
            obtain ⟨bv, kv, rfl, _, _⟩ := FV.is
            clear FV N2
            rw [H0.out]
            have B := BG.out w2 _ Z1 h2 HFV.out (fun b hb hz => by have := HN2.out b hb.2; have := lt1.out b hz; omega) G1 (fun b hb => by have := HN2.out b hb.2; omega)
            clear BG HFV HN2 h2 G1 sz1
            generalize tx (spl l).start = X at *
            generalize (spl l).n = n at *
            go_wp2_with fail
            refine B.mono ?_
            rintro e w3 ⟨rfl, Z3, h3, G3⟩
            have P3 := PS.out w3 Z3 _ h3 HEL.out HERD.out
            clear B PS
            go_wp2_with fail
            refine P3.mono ?_
            rintro e w4 ⟨rfl, P4⟩
            clear P3
            go_wp2
            go_ret
            exact ⟨true, _, rfl, Post.trans G3 P4, ST.out⟩
          · have hc : f.c = false := by simpa using hc
            have ST : Hid (Stp c l true (passed { askedAll c with st := 1, due := (f.n.toNat : Int), q := q } (spl l).n)) := Lib.hid (by
              show (if true = true then _ else _)
              rw [if_pos rfl]
              exact ⟨sized_is hh h0 hq hc, by rw [rank3 hh]; show (1 : Nat) < 3; omega⟩)
            have bg := fun (w2 : World) (v : Value) (Z2 : Nat → Prop) (h2 : Has w2 p Z2 (askedAll c)) (hv : FdsAt w2 v (spl l).list) (hn : ∀ b, FB v (spl l).list b → ¬ Z2 b) (g0 : Goes w w2 Z Z2) (hn0 : ∀ b, FB v (spl l).list b → w.heap.size ≤ b) => begin_sized h2 hq hc hv hn sh sst g0 hn0
            have BG := Lib.hid bg
            have H0 := Lib.hid h0
            clear BAD RF ha hal hrd h er sh sst sn hm hh h17 bg hq h0 hc
            go_enter Tryz.func17, Tryz.ntmps17
            go_wp2_with fail
            refine M.mono ?_
            rintro e w1 ⟨rfl, Z1, h1, G1⟩
            clear M
            have sz1 := G1.size
            have lt1 := Lib.hid h1.lt
            obtain ⟨o1, k1, d1, cv⟩ := h1.c1
            have SP := SPL w1
            clear SPL
            go_wp2_with fail
            refine SP.mono ?_
            rintro e w2 ⟨v, rfl, FV, B2, N2⟩
            clear SP d1 cv
            have HFV := Lib.hid FV
            have HN2 := Lib.hid N2
            have h2 := h1.old B2
            replace G1 := G1.trans (Goes.of_below B2 Z1)
            obtain ⟨bv, kv, rfl, _, _⟩ := FV.is
            clear FV N2
            rw [H0.out]
            have B := BG.out w2 _ Z1 h2 HFV.out (fun b hb hz => by have := HN2.out b hb.2; have := lt1.out b hz; omega) G1 (fun b hb => by have := HN2.out b hb.2; omega)
            clear BG HFV HN2 h2 G1 sz1
            generalize tx (spl l).start = X at *
            generalize (spl l).n = n at *
            go_wp2_with fail
            refine B.mono ?_
            rintro e w3 ⟨rfl, Z3, h3, G3⟩
            have P3 := PS.out w3 Z3 _ h3 HEL.out HERD.out
            clear B PS
            go_wp2_with fail
            refine P3.mono ?_
            rintro e w4 ⟨rfl, P4⟩
            clear P3
            go_wp2
            go_ret
            exact ⟨true, _, rfl, Post.trans G3 P4, ST.out⟩
      · obtain ⟨E, hE⟩ : ∃ E, (spl l).err = E := ⟨_, rfl⟩
        have wo := fun w => wrongOf_any E 431 (by omega) w
        have BD := Lib.hid (BAD.out (if E = 4 then 431 else 400) (by
          by_cases h4 : (spl l).err = 4
          · rw [rd_long h4, if_pos (by omega)]
          · rw [rd_form h17 h4 h0, if_neg (by omega)]))
        have g0 : (E != 0) = true := by rw [bne_iff_ne]; omega
        have g17 : (E == 17) = false := by rw [beq_eq_false_iff_ne]; omega
        have HE := Lib.hid hE
        clear BAD ha hal hrd h er sh sst sn hm hh h17 h0 hE
        generalize (if E = 4 then (431 : Int) else 400) = st at *
        go_enter Tryz.func17, Tryz.ntmps17
        go_wp2_with fail
        refine M.mono ?_
        rintro e w1 ⟨rfl, Z1, h1, G1⟩
        clear M
        obtain ⟨o1, k1, d1, cv⟩ := h1.c1
        have SP := SPL w1
        clear SPL
        go_wp2_with fail
        refine SP.mono ?_
        rintro e w2 ⟨v, rfl, FV, B2, N2⟩
        clear SP d1 cv
        have HFV := Lib.hid FV
        have HN2 := Lib.hid N2
        have h2 := h1.old B2
        replace G1 := G1.trans (Goes.of_below B2 Z1)
        obtain ⟨bv, kv, rfl, _, _⟩ := FV.is
        clear FV N2
        rw [HE.out]
        clear HFV HN2
        generalize tx (spl l).start = X at *
        generalize (spl l).n = n at *
        have R3 := RF.out w2 Z1 h2 st
        clear RF
        go_wp2_with fail
        refine (wo _).mono ?_
        rintro e w' ⟨rfl, rfl⟩
        clear wo
        go_wp2_with fail
        refine R3.mono ?_
        rintro e w4 ⟨rfl, P4⟩
        clear R3
        go_wp2
        go_ret
        exact ⟨false, _, rfl, Post.trans G1 P4, BD.out⟩
  · rw [decide_eq_false hmay] at M
    rw [not_or, l2] at hmay
    have h17 : (spl l).err = 17 := spl_asked ha17 hmay.1 (by omega)
    have ST : Hid (Stp c l false (askedAll c)) := Lib.hid (by
      show (if false = true then _ else _)
      rw [if_neg (by simp)]
      exact .inl ⟨rd_short h17, asked_is hh h17⟩)
    clear ha hal ha17 hmay h17 hrd h er sh sst sn hm hh
    go_enter Tryz.func17, Tryz.ntmps17
    go_wp2_with fail
    refine M.mono ?_
    rintro e w1 ⟨rfl, Z1, h1, G1⟩
    clear M
    go_wp2
    go_ret
    exact ⟨false, _, rfl, ⟨Z1, h1, G1⟩, ST.out⟩
end
end Go.Proofs.YtdldoklkenhopaaGreatDoor.In
