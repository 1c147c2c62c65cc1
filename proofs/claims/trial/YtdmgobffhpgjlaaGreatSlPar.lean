/-
  What the reader makes of a body, and bodies: what was written is read as it was, and what is read whole would have been written so. No program is spoken of.
-/
import Derived.Test.YtdmgobffhpgjlaaGreatSlRs
namespace Go.Proofs.YtdmgobffhpgjlaaGreat.Sl
open Go.RowKit Go.PlainAid Go.Proofs.YtdmgobffhpgjlaaGreat.Cr
set_option linter.unusedVariables false
set_option maxRecDepth 20000
set_option linter.unusedSimpArgs false

theorem bl_size {s : ByteArray} {l : List Nat} (h : bl s = l) : s.size = l.length := by rw [← h, bl_len]
/-! ### what is taken -/
theorem tk_app {r : Rd} {a c : List Nat} (h : bl r.rest = a ++ c) {n : Nat} (hn : a.length = n) : bl (tkV r n) = a ∧ bl (tkR r n).rest = c ∧ (tkR r n).torn = r.torn := by
  have hs := bl_size h
  rw [List.length_append] at hs
  have c1 : ¬ r.rest.size < n := by omega
  unfold tkV tkR
  rw [if_neg c1, if_neg c1, bl_extract, h]
  refine ⟨?_, ?_, rfl⟩
  · rw [List.drop_zero, Nat.sub_zero]
    exact List.take_left' hn
  · dsimp only
    rw [bl_extract, h, List.drop_left' hn]
    exact List.take_of_length_le (by omega)
theorem tk_inv {r : Rd} {n : Nat} (h : (tkR r n).torn = false) : r.torn = false ∧ bl r.rest = bl (tkV r n) ++ bl (tkR r n).rest ∧ (tkV r n).size = n := by
  unfold tkR at h
  split at h
  · cases h
  · rename_i c1
    have e1 : tkV r n = r.rest.extract 0 n := by unfold tkV; rw [if_neg c1]
    have e2 : (tkR r n).rest = r.rest.extract n r.rest.size := by unfold tkR; rw [if_neg c1]
    refine ⟨h, ?_, ?_⟩
    · rw [e1, e2, bl_extract, bl_extract, List.drop_zero, Nat.sub_zero]
      have : ((bl r.rest).drop n).take (r.rest.size - n) = (bl r.rest).drop n := List.take_of_length_le (by rw [List.length_drop, bl_len]; omega)
      rw [this, List.take_append_drop]
    · rw [e1, ByteArray.size_extract]; omega
theorem be_one (n : Nat) (h : n < 256) : be 1 (n : Int) = [n] := by
  simp only [be, Int.pow_zero, Int.ediv_one]
  congr 1
  omega
theorem one_byte {s : ByteArray} (h : s.size = 1) : bl s = be 1 (bN (bl s) : Int) := by
  have := be_bN (l := bl s) (bl_lt s)
  rw [bl_len, h] at this
  exact this.symm
theorem nb_app {r : Rd} {v : Int} {c : List Nat} {m : Nat} (hm : m ≤ 8) (h0 : 0 ≤ v) (h1 : v < 256 ^ m) (h2 : v < 9223372036854775808) (h : bl r.rest = be m v ++ c) : nb r m = v ∧ bl (tkR r m).rest = c ∧ (tkR r m).torn = r.torn := by
  obtain ⟨a1, a2, a3⟩ := tk_app h (be_len m v)
  refine ⟨?_, a2, a3⟩
  obtain ⟨q, rfl⟩ : ∃ q : Nat, v = (q : Int) := ⟨v.toNat, by omega⟩
  have h1' : q < 256 ^ m := Int.ofNat_lt.1 (by rw [Int.natCast_pow]; exact h1)
  unfold nb
  rw [a1, bN_be m q h1', i64_is]
  unfold wrap64
  omega
theorem nb_inv {r : Rd} (h : (tkR r 8).torn = false) (h0 : 0 ≤ nb r 8) : r.torn = false ∧ bl r.rest = be 8 (nb r 8) ++ bl (tkR r 8).rest := by
  obtain ⟨a1, a2, a3⟩ := tk_inv h
  refine ⟨a1, ?_⟩
  have hl : (bl (tkV r 8)).length = 8 := by rw [bl_len, a3]
  have hlt := bN_lt (bl (tkV r 8)) (bl_lt _)
  rw [hl] at hlt
  have hb := be_bN (l := bl (tkV r 8)) (bl_lt _)
  rw [hl] at hb
  have e : nb r 8 = (bN (bl (tkV r 8)) : Int) := by
    unfold nb at h0 ⊢
    rw [i64_is] at h0 ⊢
    unfold wrap64 at h0 ⊢
    have : (256 : Nat) ^ 8 = 18446744073709551616 := by decide
    omega
  rw [e, hb]
  exact a2
theorem tx_app {r : Rd} {s : ByteArray} {c : List Nat} (hs : s.size < 256) (h : bl r.rest = txt s ++ c) : txV r = s ∧ bl (txR r).rest = c ∧ (txR r).torn = r.torn := by
  unfold txt at h
  rw [List.append_assoc] at h
  obtain ⟨a1, a2, a3⟩ := tk_app h (be_len 1 _)
  have e : txN r = s.size := by
    unfold txN
    rw [a1, bN_be 1 s.size (by simpa using hs)]
  obtain ⟨b1, b2, b3⟩ := tk_app a2 (bl_len s)
  unfold txV txR
  rw [e]
  exact ⟨bl_inj b1, b2, by rw [b3, a3]⟩
theorem tx_inv {r : Rd} (h : (txR r).torn = false) : r.torn = false ∧ bl r.rest = txt (txV r) ++ bl (txR r).rest := by
  unfold txR at h
  obtain ⟨a1, a2, a3⟩ := tk_inv h
  obtain ⟨b1, b2, b3⟩ := tk_inv a1
  refine ⟨b1, ?_⟩
  have e1 := one_byte b3
  have e2 : (txV r).size = txN r := a3
  unfold txt
  rw [e2, b2, List.append_assoc]
  have e3 : bl (tkV r 1) = be 1 (txN r : Int) := e1
  rw [e3]
  congr 1

/-! ### part by part -/
theorem rT_app {k : Int} {r : Rd} {a b : ByteArray} {c : List Nat} (hn : hT k = true → a.size < 256 ∧ b.size < 256) (h0 : hT k = false → a = none8 ∧ b = none8) (h : bl r.rest = (if hT k then txt a ++ txt b else []) ++ c) :
    (rT k r).1 = (a, b) ∧ bl (rT k r).2.rest = c ∧ (rT k r).2.torn = r.torn := by
  unfold rT
  cases e : hT k
  · rw [e] at h
    obtain ⟨rfl, rfl⟩ := h0 e
    simp only [Bool.false_eq_true, if_false, List.nil_append] at h ⊢
    exact ⟨trivial, h, trivial⟩
  · rw [e] at h
    simp only [if_true, List.append_assoc] at h ⊢
    obtain ⟨s1, s2⟩ := hn e
    obtain ⟨a1, a2, a3⟩ := tx_app s1 h
    obtain ⟨b1, b2, b3⟩ := tx_app s2 a2
    exact ⟨by rw [a1, b1], b2, by rw [b3, a3]⟩
theorem rT_inv {k : Int} {r : Rd} (h : (rT k r).2.torn = false) : r.torn = false ∧ bl r.rest = (if hT k then txt (rT k r).1.1 ++ txt (rT k r).1.2 else []) ++ bl (rT k r).2.rest := by
  unfold rT at h ⊢
  cases e : hT k
  · rw [e] at h
    simp only [Bool.false_eq_true, if_false, List.nil_append] at h ⊢
    exact ⟨h, trivial⟩
  · rw [e] at h
    simp only [if_true, List.append_assoc] at h ⊢
    obtain ⟨a1, a2⟩ := tx_inv h
    obtain ⟨b1, b2⟩ := tx_inv a1
    exact ⟨b1, by rw [b2, a2]⟩
theorem rD_app {k : Int} {r : Rd} {d : List Nat} {c : List Nat} (hd : Dig d) (h0 : hD k = false → d = zeros) (h : bl r.rest = (if hD k then d else []) ++ c) :
    (rD k r).1 = d ∧ bl (rD k r).2.rest = c ∧ (rD k r).2.torn = r.torn := by
  unfold rD
  cases e : hD k
  · rw [e] at h
    simp only [Bool.false_eq_true, if_false, List.nil_append] at h ⊢
    exact ⟨(h0 e).symm, h, trivial⟩
  · rw [e] at h
    simp only [if_true] at h ⊢
    obtain ⟨a1, a2, a3⟩ := tk_app h hd.len
    refine ⟨?_, a2, a3⟩
    unfold dgV
    rw [if_pos (by rw [bl_size a1, hd.len]), a1]
theorem rD_inv {k : Int} {r : Rd} (h : (rD k r).2.torn = false) : r.torn = false ∧ bl r.rest = (if hD k then (rD k r).1 else []) ++ bl (rD k r).2.rest := by
  unfold rD at h ⊢
  cases e : hD k
  · rw [e] at h
    simp only [Bool.false_eq_true, if_false, List.nil_append] at h ⊢
    exact ⟨h, trivial⟩
  · rw [e] at h
    simp only [if_true] at h ⊢
    obtain ⟨a1, a2, a3⟩ := tk_inv h
    refine ⟨a1, ?_⟩
    unfold dgV
    rw [if_pos a3]
    exact a2
theorem rM_app {k : Int} {r : Rd} {m : ByteArray} {v : Int} {c : List Nat} (hm : m.size < 256) (hv : 0 ≤ v ∧ v < 9223372036854775808) (h0 : hM k = false → m = none8 ∧ v = 0) (h : bl r.rest = (if hM k then txt m ++ be 8 v else []) ++ c) :
    (rM k r).1 = (m, v) ∧ bl (rM k r).2.rest = c ∧ (rM k r).2.torn = r.torn := by
  unfold rM
  cases e : hM k
  · rw [e] at h
    obtain ⟨rfl, rfl⟩ := h0 e
    simp only [Bool.false_eq_true, if_false, List.nil_append] at h ⊢
    exact ⟨trivial, h, trivial⟩
  · rw [e] at h
    simp only [if_true, List.append_assoc] at h ⊢
    obtain ⟨a1, a2, a3⟩ := tx_app hm h
    obtain ⟨b1, b2, b3⟩ := nb_app (by decide) hv.1 (by have : (256 : Int) ^ 8 = 18446744073709551616 := by decide
                                                       omega) hv.2 a2
    exact ⟨by rw [a1, b1], b2, by rw [b3, a3]⟩
theorem rM_inv {k : Int} {r : Rd} (h : (rM k r).2.torn = false) (h0 : 0 ≤ (rM k r).1.2) : r.torn = false ∧ bl r.rest = (if hM k then txt (rM k r).1.1 ++ be 8 (rM k r).1.2 else []) ++ bl (rM k r).2.rest := by
  unfold rM at h h0 ⊢
  cases e : hM k
  · rw [e] at h
    simp only [Bool.false_eq_true, if_false, List.nil_append] at h ⊢
    exact ⟨h, trivial⟩
  · rw [e] at h h0
    simp only [if_true, List.append_assoc] at h h0 ⊢
    obtain ⟨a1, a2⟩ := nb_inv h h0
    obtain ⟨b1, b2⟩ := tx_inv a1
    exact ⟨b1, by rw [b2, a2]⟩
theorem rA_app {k : Int} {r : Rd} {v : Int} {c : List Nat} (hv : 0 ≤ v ∧ v < 9223372036854775808) (h0 : hA k = false → v = 0) (h : bl r.rest = (if hA k then be 8 v else []) ++ c) :
    (rA k r).1 = v ∧ bl (rA k r).2.rest = c ∧ (rA k r).2.torn = r.torn := by
  unfold rA
  cases e : hA k
  · rw [e] at h
    simp only [Bool.false_eq_true, if_false, List.nil_append] at h ⊢
    exact ⟨(h0 e).symm, h, trivial⟩
  · rw [e] at h
    simp only [if_true] at h ⊢
    exact nb_app (by decide) hv.1 (by have : (256 : Int) ^ 8 = 18446744073709551616 := by decide
                                      omega) hv.2 h
theorem rA_inv {k : Int} {r : Rd} (h : (rA k r).2.torn = false) (h0 : 0 ≤ (rA k r).1) : r.torn = false ∧ bl r.rest = (if hA k then be 8 (rA k r).1 else []) ++ bl (rA k r).2.rest := by
  unfold rA at h h0 ⊢
  cases e : hA k
  · rw [e] at h
    simp only [Bool.false_eq_true, if_false, List.nil_append] at h ⊢
    exact ⟨h, trivial⟩
  · rw [e] at h h0
    simp only [if_true] at h h0 ⊢
    exact nb_inv h h0
/-- what was written is read as it was -/
theorem rs_app {s : ByteArray} {x : Sp} (hx : Can x) (h : bl s = bodyL x) : rsX ⟨s, false⟩ = x ∧ (rsR ⟨s, false⟩).torn = false ∧ (rsR ⟨s, false⟩).rest = none8 := by
  have h' : bl (Rd.mk s false).rest = be 1 x.k ++ (pT x ++ (pD x ++ (pM x ++ (pA x ++ [])))) := by
    show bl s = _
    rw [h]
    unfold bodyL
    simp [List.append_assoc]
  have hk := hx.k
  obtain ⟨a1, a2, a3⟩ := nb_app (m := 1) (by decide) (by omega) (by have : (256 : Int) ^ 1 = 256 := by decide
                                                                    omega) (by omega) h'
  have hn : hT x.k = true → x.repo.size < 256 ∧ x.tag.size < 256 := fun e => by have := hx.names e; omega
  obtain ⟨b1, b2, b3⟩ := rT_app (k := x.k) (r := rs1 ⟨s, false⟩) hn hx.noNames a2
  have e2 : rs2 ⟨s, false⟩ = (rT x.k (rs1 ⟨s, false⟩)).2 := by unfold rs2; rw [a1]
  rw [← e2] at b2 b3
  obtain ⟨c1, c2, c3⟩ := rD_app (k := x.k) hx.dig hx.noDig b2
  have e3 : rs3 ⟨s, false⟩ = (rD x.k (rs2 ⟨s, false⟩)).2 := by unfold rs3; rw [a1]
  rw [← e3] at c2 c3
  have t1 := hx.ty; have t2 := hx.sz; have t3 := hx.tm
  obtain ⟨d1, d2, d3⟩ := rM_app (k := x.k) (by omega) (by omega) hx.noMedia c2
  have e4 : rs4 ⟨s, false⟩ = (rM x.k (rs3 ⟨s, false⟩)).2 := by unfold rs4; rw [a1]
  rw [← e4] at d2 d3
  obtain ⟨f1, f2, f3⟩ := rA_app (k := x.k) (by omega) hx.noTime d2
  have e5 : rsR ⟨s, false⟩ = (rA x.k (rs4 ⟨s, false⟩)).2 := by unfold rsR; rw [a1]
  refine ⟨?_, ?_, ?_⟩
  · unfold rsX
    rw [a1, b1, c1, d1, f1]
  · rw [e5, f3, d3, c3, b3]
    exact a3
  · rw [e5]
    exact bl_inj f2
/-- what is read whole would have been written so -/
theorem rs_inv {s : ByteArray} (h1 : (rsR ⟨s, false⟩).torn = false) (h2 : (rsR ⟨s, false⟩).rest = none8) (hx : Can (rsX ⟨s, false⟩)) : bl s = bodyL (rsX ⟨s, false⟩) := by
  have t2 := hx.sz; have t3 := hx.tm
  obtain ⟨f1, f2⟩ := rA_inv (k := nb ⟨s, false⟩ 1) (r := rs4 ⟨s, false⟩) h1 t3.1
  obtain ⟨d1, d2⟩ := rM_inv (k := nb ⟨s, false⟩ 1) (r := rs3 ⟨s, false⟩) f1 t2.1
  obtain ⟨c1, c2⟩ := rD_inv (k := nb ⟨s, false⟩ 1) (r := rs2 ⟨s, false⟩) d1
  obtain ⟨b1, b2⟩ := rT_inv (k := nb ⟨s, false⟩ 1) (r := rs1 ⟨s, false⟩) c1
  obtain ⟨a1, a2, a3⟩ := tk_inv (r := ⟨s, false⟩) (n := 1) b1
  have e1 : bl (tkV ⟨s, false⟩ 1) = be 1 (nb ⟨s, false⟩ 1) := by
    rw [nb_one]
    exact one_byte a3
  have r0 : bl (rA (nb ⟨s, false⟩ 1) (rs4 ⟨s, false⟩)).2.rest = [] := by
    have : (rA (nb ⟨s, false⟩ 1) (rs4 ⟨s, false⟩)).2.rest = none8 := h2
    rw [this]; rfl
  rw [r0] at f2
  have g4 : bl (rM (nb ⟨s, false⟩ 1) (rs3 ⟨s, false⟩)).2.rest = _ := f2
  have g3 : bl (rD (nb ⟨s, false⟩ 1) (rs2 ⟨s, false⟩)).2.rest = _ := d2
  have g2 : bl (rT (nb ⟨s, false⟩ 1) (rs1 ⟨s, false⟩)).2.rest = _ := c2
  have g1 : bl (tkR ⟨s, false⟩ 1).rest = _ := b2
  have g0 : bl s = _ := a2
  rw [g0, e1, g1, g2, g3, g4]
  unfold bodyL pT pD pM pA rsX
  simp [List.append_assoc]
end Go.Proofs.YtdmgobffhpgjlaaGreat.Sl
