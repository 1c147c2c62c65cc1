/-
  The document's Create and Delete.
-/
import Derived.Test.YtdmgobffhpgjlaaGreatPkRef6
namespace Go.Proofs.YtdmgobffhpgjlaaGreat.Pk
open Go.RowKit Go.PlainAid Go.Maps
set_option linter.unusedVariables false
set_option maxRecDepth 20000
set_option linter.unusedSimpArgs false

theorem RPost.next {w w1 w2 : World} {u : Nat} {v v1 : Value} {D2 : Dk} (p : RPost w1 w2 u v1 D2) (g : Goes w w1 (rzone u v) (rzone u v1)) : RPost w w2 u v D2 := by
  obtain ⟨v2, a2, m2, R2, G2⟩ := p
  exact ⟨v2, a2, m2, R2, g.trans G2⟩
section
variable {w w' : World} {u : Nat} {v : Value} {a mo : Int} {D : Dk}
set_option maxRecDepth 100000 in
set_option maxHeartbeats 2000000 in
theorem rcreate_any (h : RefAt w u v a mo D) (pw : D.Pw) (ho : D.ops ≤ 1099511627776) {s : ByteArray} (hs : s.size ≤ 9223372036854775807) :
    Calls Tryz.prog 41 #[.pointer (some ⟨u, 0, none⟩), .string s] w fun e w' => e = .returned (.int .i64 (D.create (kl s)).1) ∧ RPost w w' u v (D.create (kl s)).2 := by
  have B := rbegin_any h pw ho s s hs hs
  rw [Bool.and_self] at B
  clear h
  by_cases hr : (D.beg (isName (kl s))).1 ≠ 0
  · rw [create_r hr]
    clear pw
    generalize D.beg (isName (kl s)) = r at *
    obtain ⟨r1, r2⟩ := r
    simp only at hr B ⊢
    go_enter Tryz.func41, Tryz.ntmps41
    go_wp2_with fail
    refine B.mono ?_
    rintro e w1 ⟨rfl, P1⟩
    have PH := Lib.hid P1
    clear B P1
    go_wp2
    go_ret
    exact ⟨rfl, PH.out⟩
  have hr : (D.beg (isName (kl s))).1 = 0 := by simpa using hr
  have hgd := beg_good hr
  rw [hr] at B
  cases hg : getF (kl s) (D.beg (isName (kl s))).2.L with
  | some f =>
    rw [create_t hr hg]
    generalize (D.beg (isName (kl s))).2 = r at *
    go_enter Tryz.func41, Tryz.ntmps41
    go_wp2_with fail
    refine B.mono ?_
    rintro e w1 ⟨rfl, v1, a1, m1, R1, G1⟩
    clear B
    have PL := place_any R1 s
    go_wp2_with fail
    refine PL.mono ?_
    rintro e w' ⟨i, rfl, PI, rfl⟩
    clear PL
    rcases PI with ⟨_, e⟩ | ⟨n, f', rfl, p1, p2, p3⟩
    · rw [hg] at e; cases e
    have PH : RPost w w1 u v r := ⟨v1, a1, m1, R1, G1⟩
    have PHH := Lib.hid PH
    clear R1 G1 PH
    go_wp2
    go_ret
    exact ⟨rfl, PHH.out⟩
  | none =>
    by_cases hn : 200 ≤ (D.beg (isName (kl s))).2.L.length
    · rw [create_f hr hg hn]
      generalize (D.beg (isName (kl s))).2 = r at *
      go_enter Tryz.func41, Tryz.ntmps41
      go_wp2_with fail
      refine B.mono ?_
      rintro e w1 ⟨rfl, v1, a1, m1, R1, G1⟩
      clear B
      have PL := place_any R1 s
      go_wp2_with fail
      refine PL.mono ?_
      rintro e w' ⟨i, rfl, PI, rfl⟩
      clear PL
      rcases PI with ⟨rfl, e⟩ | ⟨n, f', rfl, p1, p2, p3⟩
      case inr => rw [hg] at p3; cases p3
      obtain ⟨o, cap, ev, _⟩ := R1.form
      have c0 := R1.cell 0
      subst ev
      simp [refV] at c0
      have PH : RPost w w1 u v r := ⟨_, a1, m1, R1, G1⟩
      have PHH := Lib.hid PH
      have n1 : (200 : Int) ≤ (r.L.length : Int) := by omega
      clear R1 G1 PH
      go_wp2
      go_ret
      exact ⟨rfl, PHH.out⟩
    · rw [create_o hr hg hn]
      have HG := Lib.hid hgd
      generalize (D.beg (isName (kl s))).2 = r at *
      go_enter Tryz.func41, Tryz.ntmps41
      go_wp2_with fail
      refine B.mono ?_
      rintro e w1 ⟨rfl, v1, a1, m1, R1, G1⟩
      clear B
      have PL := place_any R1 s
      go_wp2_with fail
      refine PL.mono ?_
      rintro e w' ⟨i, rfl, PI, rfl⟩
      clear PL
      rcases PI with ⟨rfl, e⟩ | ⟨n, f', rfl, p1, p2, p3⟩
      case inr => rw [hg] at p3; cases p3
      have okr := R1.ok
      have PU := rput_any R1 ⟨kl s, [], 0⟩ (okr.ins HG.out (by simp) (get_none hg) (by simpa using okr.used) (by omega))
      simp only [nmB_kl] at PU
      obtain ⟨o, cap, ev, _⟩ := R1.form
      have c0 := R1.cell 0
      subst ev
      simp [refV] at c0
      have GH := Lib.hid G1
      have n1 : ¬ (200 : Int) ≤ (r.L.length : Int) := by omega
      clear R1 G1 okr
      go_wp2_with fail
      refine PU.mono ?_
      rintro e w2 ⟨rfl, P2⟩
      have PH := Lib.hid (P2.next GH.out)
      clear PU P2
      go_wp2
      go_ret
      exact ⟨rfl, PH.out⟩
set_option maxRecDepth 100000 in
set_option maxHeartbeats 2000000 in
theorem rdelete_any (h : RefAt w u v a mo D) (pw : D.Pw) (ho : D.ops ≤ 1099511627776) {s : ByteArray} (hs : s.size ≤ 9223372036854775807) :
    Calls Tryz.prog 40 #[.pointer (some ⟨u, 0, none⟩), .string s] w fun e w' => e = .returned (.int .i64 (D.delete (kl s)).1) ∧ RPost w w' u v (D.delete (kl s)).2 := by
  have B := rbegin_any h pw ho s s hs hs
  rw [Bool.and_self] at B
  clear h
  by_cases hr : (D.beg (isName (kl s))).1 ≠ 0
  · rw [delete_r hr]
    clear pw
    generalize D.beg (isName (kl s)) = r at *
    obtain ⟨r1, r2⟩ := r
    simp only at hr B ⊢
    go_enter Tryz.func40, Tryz.ntmps40
    go_wp2_with fail
    refine B.mono ?_
    rintro e w1 ⟨rfl, P1⟩
    have PH := Lib.hid P1
    clear B P1
    go_wp2
    go_ret
    exact ⟨rfl, PH.out⟩
  have hr : (D.beg (isName (kl s))).1 = 0 := by simpa using hr
  have hgd := beg_good hr
  rw [hr] at B
  cases hg : getF (kl s) (D.beg (isName (kl s))).2.L with
  | none =>
    rw [delete_n hr hg]
    generalize (D.beg (isName (kl s))).2 = r at *
    go_enter Tryz.func40, Tryz.ntmps40
    go_wp2_with fail
    refine B.mono ?_
    rintro e w1 ⟨rfl, v1, a1, m1, R1, G1⟩
    clear B
    have PL := place_any R1 s
    go_wp2_with fail
    refine PL.mono ?_
    rintro e w' ⟨i, rfl, PI, rfl⟩
    clear PL
    rcases PI with ⟨rfl, e⟩ | ⟨n, f', rfl, p1, p2, p3⟩
    case inr => rw [hg] at p3; cases p3
    have PH : RPost w w1 u v r := ⟨v1, a1, m1, R1, G1⟩
    have PHH := Lib.hid PH
    clear R1 G1 PH
    go_wp2
    go_ret
    exact ⟨rfl, PHH.out⟩
  | some f =>
    rw [delete_s hr hg]
    generalize (D.beg (isName (kl s))).2 = r at *
    go_enter Tryz.func40, Tryz.ntmps40
    go_wp2_with fail
    refine B.mono ?_
    rintro e w1 ⟨rfl, v1, a1, m1, R1, G1⟩
    clear B
    have PL := place_any R1 s
    go_wp2_with fail
    refine PL.mono ?_
    rintro e w' ⟨i, rfl, PI, rfl⟩
    clear PL
    rcases PI with ⟨_, e⟩ | ⟨n, f', rfl, p1, p2, p3⟩
    · rw [hg] at e; cases e
    have DR := rdrop_any R1 p1
    rw [p2] at DR
    have GH := Lib.hid G1
    have n1 : ¬ (n : Int) < 0 := by omega
    clear R1 G1
    go_wp2_with fail
    refine DR.mono ?_
    rintro e w2 ⟨rfl, P2⟩
    have PH := Lib.hid (P2.next GH.out)
    clear DR P2
    go_wp2
    go_ret
    exact ⟨rfl, PH.out⟩
end
end Go.Proofs.YtdmgobffhpgjlaaGreat.Pk
