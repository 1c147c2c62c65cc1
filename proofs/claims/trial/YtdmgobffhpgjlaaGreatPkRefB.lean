/-
  The document's Read.
-/
import Derived.Test.YtdmgobffhpgjlaaGreatPkRef8
namespace Go.Proofs.YtdmgobffhpgjlaaGreat.Pk
open Go.RowKit Go.PlainAid Go.Maps
set_option linter.unusedVariables false
set_option maxRecDepth 20000
set_option linter.unusedSimpArgs false

theorem cut_nmB (b : Bs) {a k : Nat} (ha : a ≤ b.length) : (nmB b).extract a (a + min k (b.length - a)) = nmB ((b.drop a).take k) := by
  apply WideShapes.bytes_inj
  simp only [nmB, ByteArray.data_extract, Array.toList_extract, List.extract_eq_take_drop]
  rw [Nat.add_sub_cancel_left]
  rcases Nat.le_total k (b.length - a) with c | c
  · rw [Nat.min_eq_left c]
  · rw [Nat.min_eq_right c, List.take_of_length_le (by simp), List.take_of_length_le (by simp; omega)]
section
variable {w w' : World} {u : Nat} {v : Value} {a mo : Int} {D : Dk}
set_option maxRecDepth 100000 in
set_option maxHeartbeats 2000000 in
theorem rread_any (h : RefAt w u v a mo D) (pw : D.Pw) (ho : D.ops ≤ 1099511627776) {s : ByteArray} (hs : s.size ≤ 9223372036854775807) (pos n : Int) (hp : pos ≤ 9223372036854775807) (hn : n ≤ 9223372036854775807) :
    Calls Tryz.prog 42 #[.pointer (some ⟨u, 0, none⟩), .string s, .int .i64 pos, .int .i64 n] w fun e w' => e = .returned (.tuple #[.string ⟨(D.read (kl s) pos n).1.toArray⟩, .int .i64 (D.read (kl s) pos n).2.1]) ∧ RPost w w' u v (D.read (kl s) pos n).2.2 := by
  have B := rbegin_any h pw ho s s hs hs
  rw [Bool.and_self] at B
  have PHH := Lib.hid (show RPost w w u v D from ⟨v, a, mo, h, Goes.refl _ _⟩)
  have ni := isName_iff s
  clear h pw
  by_cases b0 : s.size < 1
  · rw [read_b (by have : isName (kl s) = false := by
                     cases hx : isName (kl s)
                     · rfl
                     · have := ni.1 hx; omega
                   simp [this])]
    have c0 : (s.size : Int) < 1 := by omega
    clear B ni
    go_enter Tryz.func42, Tryz.ntmps42
    go_wp2
    go_ret2
    exact ⟨rfl, PHH.out⟩
  have c0 : ¬ (s.size : Int) < 1 := by omega
  by_cases b1 : 80 < s.size
  · rw [read_b (by have : isName (kl s) = false := by
                     cases hx : isName (kl s)
                     · rfl
                     · have := ni.1 hx; omega
                   simp [this])]
    have c1 : (80 : Int) < (s.size : Int) := by omega
    clear B ni
    go_enter Tryz.func42, Tryz.ntmps42
    go_wp2
    go_ret2
    exact ⟨rfl, PHH.out⟩
  have c1 : ¬ (80 : Int) < (s.size : Int) := by omega
  have gs : isName (kl s) = true := ni.2 (by omega)
  rw [gs] at B
  by_cases b2 : pos < 0
  · rw [read_b (by have : ¬ 0 ≤ pos := by omega
                   simp [this])]
    clear B ni gs
    go_enter Tryz.func42, Tryz.ntmps42
    go_wp2
    go_ret2
    exact ⟨rfl, PHH.out⟩
  by_cases b3 : n < 0
  · rw [read_b (by have : ¬ 0 ≤ n := by omega
                   simp [this])]
    clear B ni gs
    go_enter Tryz.func42, Tryz.ntmps42
    go_wp2
    go_ret2
    exact ⟨rfl, PHH.out⟩
  have hb : (isName (kl s) && decide (0 ≤ pos) && decide (0 ≤ n)) = true := by
    have c2 : 0 ≤ pos := by omega
    have c3 : 0 ≤ n := by omega
    simp [gs, c2, c3]
  clear ni gs PHH
  by_cases hr : (D.beg true).1 ≠ 0
  · rw [read_r hb hr]
    clear hb
    generalize D.beg true = r at *
    obtain ⟨r1, r2⟩ := r
    simp only at hr B ⊢
    go_enter Tryz.func42, Tryz.ntmps42
    go_wp2_with fail
    refine B.mono ?_
    rintro e w1 ⟨rfl, P1⟩
    have PH := Lib.hid P1
    clear B P1
    go_wp2
    go_ret2
    exact ⟨rfl, PH.out⟩
  have hr : (D.beg true).1 = 0 := by simpa using hr
  rw [hr] at B
  cases hg : getF (kl s) (D.beg true).2.L with
  | none =>
    rw [read_n hb hr hg]
    clear hb hr
    generalize (D.beg true).2 = r at *
    go_enter Tryz.func42, Tryz.ntmps42
    go_wp2_with fail
    refine B.mono ?_
    rintro e w1 ⟨rfl, v1, a1, m1, R1, G1⟩
    clear B
    have PL := place_any R1 s
    go_wp2_with fail
    refine PL.mono ?_
    rintro e w' ⟨i, rfl, PI, rfl⟩
    clear PL
    rcases PI with ⟨rfl, e⟩ | ⟨n', f', rfl, p1, p2, p3⟩
    case inr => rw [hg] at p3; cases p3
    have PHH := Lib.hid (show RPost w w1 u v r from ⟨v1, a1, m1, R1, G1⟩)
    clear R1 G1
    go_wp2
    go_ret2
    exact ⟨rfl, PHH.out⟩
  | some f =>
    by_cases hc : (f.bs.length : Int) < pos
    · rw [read_f hb hr hg hc]
      clear hb hr
      generalize (D.beg true).2 = r at *
      go_enter Tryz.func42, Tryz.ntmps42
      go_wp2_with fail
      refine B.mono ?_
      rintro e w1 ⟨rfl, v1, a1, m1, R1, G1⟩
      clear B
      have PL := place_any R1 s
      go_wp2_with fail
      refine PL.mono ?_
      rintro e w' ⟨i, rfl, PI, rfl⟩
      clear PL
      rcases PI with ⟨_, e⟩ | ⟨k, f', rfl, p1, p2, p3⟩
      · rw [hg] at e; cases e
      obtain rfl : f = f' := by rw [hg] at p3; injection p3
      have n1 : ¬ (k : Int) < 0 := by omega
      have nl := (List.getElem?_eq_some_iff.1 p1).1
      have n2 : (k : Int) < (r.L.length : Int) := by omega
      obtain ⟨g, cap, ev, cells, _⟩ := R1.file p1
      have cS := cells 1 _ rfl
      have c9 := R1.cell 0
      subst ev
      simp [refV] at c9
      have sz := nmB_size f.bs
      have PHH := Lib.hid (show RPost w w1 u v r from ⟨_, a1, m1, R1, G1⟩)
      clear R1 G1 cells
      go_wp2
      go_ret2
      exact ⟨rfl, PHH.out⟩
    · rw [read_o hb hr hg hc]
      clear hb hr
      generalize (D.beg true).2 = r at *
      obtain ⟨q, rfl⟩ : ∃ q : Nat, pos = (q : Int) := ⟨pos.toNat, by omega⟩
      obtain ⟨m, rfl⟩ : ∃ m : Nat, n = (m : Int) := ⟨n.toNat, by omega⟩
      rw [Int.toNat_natCast, Int.toNat_natCast]
      go_enter Tryz.func42, Tryz.ntmps42
      go_wp2_with fail
      refine B.mono ?_
      rintro e w1 ⟨rfl, v1, a1, m1, R1, G1⟩
      clear B
      have PL := place_any R1 s
      go_wp2_with fail
      refine PL.mono ?_
      rintro e w' ⟨i, rfl, PI, rfl⟩
      clear PL
      rcases PI with ⟨_, e⟩ | ⟨k, f', rfl, p1, p2, p3⟩
      · rw [hg] at e; cases e
      obtain rfl : f = f' := by rw [hg] at p3; injection p3
      have n1 : ¬ (k : Int) < 0 := by omega
      have nl := (List.getElem?_eq_some_iff.1 p1).1
      have n2 : (k : Int) < (r.L.length : Int) := by omega
      obtain ⟨g, cap, ev, cells, _⟩ := R1.file p1
      have cS := cells 1 _ rfl
      have c9 := R1.cell 0
      have bl := Nat.le_trans (mem_used (List.mem_of_getElem? p1)) (show usedF r.L ≤ 4194304 by have := R1.ok.used; have := R1.ok.room1; omega)
      subst ev
      simp [refV] at c9
      have sz := nmB_size f.bs
      have ct := cut_nmB f.bs (a := q) (k := m) (by omega)
      have PHH := Lib.hid (show RPost w w1 u v r from ⟨_, a1, m1, R1, G1⟩)
      clear R1 G1 cells
      have q1 : IntKind.i64.wrap ((f.bs.length : Int) - (q : Int)) = (f.bs.length : Int) - (q : Int) := IntWalk.i64_in _ (by omega)
      have q2 : IntKind.i64.wrap ((q : Int) + min (m : Int) ((f.bs.length : Int) - (q : Int))) = (q : Int) + min (m : Int) ((f.bs.length : Int) - (q : Int)) := IntWalk.i64_in _ (by omega)
      have q3 : (q : Int) + min (m : Int) ((f.bs.length : Int) - (q : Int)) = ((q + min m (f.bs.length - q) : Nat) : Int) := by omega
      have q4 : q + min m (f.bs.length - q) ≤ f.bs.length := by omega
      have nc : ¬ (f.bs.length : Int) < (q : Int) := by omega
      clear hc b2 b3 hp hn
      have CS : ∀ w2, (Instr.slice 9 (.string (nmB f.bs)) (some (.int .i64 (q : Int))) (some (.int .i64 ((q : Int) + ((min m (f.bs.length - q) : Nat) : Int)))) none).run Tryz.prog w2 = .ok (.string (nmB ((f.bs.drop q).take m))) w2 := by
        intro w2
        rw [run_slice_string w2 9 _ _ _ _ _ Tryz.underlying9 (by omega) (by omega) (by rw [sz]; omega)]
        rw [show ((q : Int) + ((min m (f.bs.length - q) : Nat) : Int)).toNat = q + min m (f.bs.length - q) from by omega, show ((q : Int)).toNat = q from rfl, ct]
      go_wp2
      go_ret2
      exact ⟨rfl, PHH.out⟩
end
end Go.Proofs.YtdmgobffhpgjlaaGreat.Pk
