/-
  Contracts of the log's own helpers: isThere, discard, load, replace, renew.
-/
import Derived.Test.YtdmgobffhpgjlaaGreatDgA
import Derived.Deep.RegionHeld3

namespace Go.Proofs.YtdmgobffhpgjlaaGreat.Sl.Dg
open Go.RowKit Go.PlainAid Go.Proofs.YtdmgobffhpgjlaaGreat.Cr
open Go.Proofs.YtdmgobffhpgjlaaGreat.Pk (Bs Fi Dk kl HasD has_size has_create has_append has_read has_sync has_rename has_delete)
set_option linter.unusedVariables false
set_option maxRecDepth 20000
set_option linter.unusedSimpArgs false

section
variable {w0 w w' : World} {p q : Nat} {D D' : Dk} {L L' : Lg} {X : List (Nat × Obj)}
theorem size_ge (D : Dk) (n : Bs) : -1 ≤ D.size n := by
  unfold Dk.size
  split
  · decide
  · omega
theorem size_le (ok : D.Ok) (n : Bs) : D.size n ≤ 4194304 := by
  unfold Dk.size
  split
  · decide
  · rename_i f hf
    have h1 := Pk.mem_used (Pk.get_some hf).1
    have h2 := ok.used
    have h3 := ok.room1
    omega
theorem there_any (h : HasD w0 w p D X) {s : ByteArray} (hs : s.size ≤ 1000) :
    Calls Tryz.prog 63 #[.pointer (some ⟨p, 0, none⟩), .string s] w fun e w' => e = .returned (.bool (decide (0 ≤ D.size (kl s)))) ∧ w = w' := by
  have C := has_size h (s := s) (by omega)
  have g1 := size_ge D (kl s)
  have g2 := size_le h.ok (kl s)
  generalize D.size (kl s) = n at C g1 g2 ⊢
  by_cases c : 0 ≤ n
  · rw [decide_eq_true c]
    go_enter Tryz.func63, Tryz.ntmps63
    go_wp2_with fail
    refine C.mono ?_
    rintro e w1 ⟨rfl, rfl⟩
    go_wp2
    go_ret
    exact ⟨rfl, rfl⟩
  · rw [decide_eq_false c]
    go_enter Tryz.func63, Tryz.ntmps63
    go_wp2_with fail
    refine C.mono ?_
    rintro e w1 ⟨rfl, rfl⟩
    go_wp2
    go_ret
    exact ⟨by simp; omega, rfl⟩
theorem disc_any (h : HasD w0 w p D X) (ho : D.ops ≤ 1099511627776) :
    Calls Tryz.prog 62 #[.pointer (some ⟨p, 0, none⟩)] w fun e w' => e = .returned (.int .i64 (disc D).1) ∧ HasD w0 w' p (disc D).2 X := by
  have C := there_any h (s := nS) (by decide)
  have E := has_delete h ho (s := nS) (by decide)
  rw [kl_nS] at C E
  unfold disc
  by_cases c : D.size nN < 0
  · rw [if_pos c]
    rw [decide_eq_false (by omega)] at C
    go_enter Tryz.func62, Tryz.ntmps62
    go_wp2_with fail
    refine C.mono ?_
    rintro e w1 ⟨rfl, rfl⟩
    go_wp2
    go_ret
    exact ⟨rfl, h⟩
  · rw [if_neg c]
    rw [decide_eq_true (by omega)] at C
    generalize D.delete nN = r at E ⊢
    go_enter Tryz.func62, Tryz.ntmps62
    go_wp2_with fail
    refine C.mono ?_
    rintro e w1 ⟨rfl, rfl⟩
    go_wp2_with fail
    refine E.mono ?_
    rintro e w2 ⟨rfl, h2⟩
    go_wp2
    go_ret
    exact ⟨rfl, h2⟩
theorem make_yes (h : D.size dN < 0) : make D = D.create dN := by unfold make; rw [if_pos h]
theorem make_no (h : ¬ D.size dN < 0) : make D = (0, D) := by unfold make; rw [if_neg h]
theorem load1 (c : (disc D).1 ≠ 0) : load D = ([], disc D) := by unfold load; rw [if_pos c]
theorem load2 (c : (disc D).1 = 0) (c2 : (make (disc D).2).1 ≠ 0) : load D = ([], (make (disc D).2)) := by unfold load; rw [if_neg (by simpa using c), if_pos c2]
theorem load3 (c : (disc D).1 = 0) (c2 : (make (disc D).2).1 = 0) (c3 : ((make (disc D).2).2.read dN 0 ((make (disc D).2).2.size dN)).2.1 ≠ 0) : load D = ([], ((make (disc D).2).2.read dN 0 ((make (disc D).2).2.size dN)).2) := by unfold load; rw [if_neg (by simpa using c), if_neg (by simpa using c2), if_pos c3]
theorem load4 (c : (disc D).1 = 0) (c2 : (make (disc D).2).1 = 0) (c3 : ((make (disc D).2).2.read dN 0 ((make (disc D).2).2.size dN)).2.1 = 0) (c4 : (((make (disc D).2).2.read dN 0 ((make (disc D).2).2.size dN)).2.2.sync dN).1 ≠ 0) : load D = ([], (((make (disc D).2).2.read dN 0 ((make (disc D).2).2.size dN)).2.2.sync dN)) := by unfold load; rw [if_neg (by simpa using c), if_neg (by simpa using c2), if_neg (by simpa using c3), if_pos c4]
theorem load5 (c : (disc D).1 = 0) (c2 : (make (disc D).2).1 = 0) (c3 : ((make (disc D).2).2.read dN 0 ((make (disc D).2).2.size dN)).2.1 = 0) (c4 : (((make (disc D).2).2.read dN 0 ((make (disc D).2).2.size dN)).2.2.sync dN).1 = 0) : load D = (((make (disc D).2).2.read dN 0 ((make (disc D).2).2.size dN)).1, 0, (((make (disc D).2).2.read dN 0 ((make (disc D).2).2.size dN)).2.2.sync dN).2) := by unfold load; rw [if_neg (by simpa using c), if_neg (by simpa using c2), if_neg (by simpa using c3), if_neg (by simpa using c4)]

theorem load_d {e1 : Int} {E : Dk} (hE : disc D = (e1, E)) (c : e1 ≠ 0) (h : HasD w0 w p D X) (ho : D.ops ≤ 1099511627776) :
    Calls Tryz.prog 36 #[.pointer (some ⟨p, 0, none⟩)] w fun e w' => e = .returned (.tuple #[.string ⟨#[]⟩, .int .i64 e1]) ∧ HasD w0 w' p E X := by
  have C1 := disc_any h ho
  rw [hE] at C1
  have n1 : (e1 != 0) = true := by simpa using c
  clear hE
  go_enter Tryz.func36, Tryz.ntmps36
  go_wp2_with fail
  refine C1.mono ?_
  rintro e w1 ⟨rfl, h⟩
  clear C1
  go_wp2
  go_ret2
  exact ⟨rfl, h⟩

theorem load_c2 {E : Dk} (hE : (disc D) = (0, E)) (h : HasD w0 w p D X) (ho : D.ops ≤ 1099511627776) (ho2 : E.ops + 4 ≤ 1099511627776) (hs : E.size dN < 0) {F : Dk} {e2 : Int} (h2 : E.create dN = (e2, F)) (c2 : e2 ≠ 0) :
    Calls Tryz.prog 36 #[.pointer (some ⟨p, 0, none⟩)] w fun e w' => e = .returned (.tuple #[.string ⟨#[]⟩, .int .i64 e2]) ∧ HasD w0 w' p F X := by
  have C1 := disc_any h ho
  rw [hE] at C1
  have C2 := Lib.hid fun w' (h : HasD w0 w' p E X) => there_any h (s := dS) (by decide)
  rw [kl_dS, decide_eq_false (by omega)] at C2
  have C3 := Lib.hid fun w' (h : HasD w0 w' p E X) => has_create h (by omega) (s := dS) (by decide)
  rw [kl_dS, h2] at C3
  have o3 := create_ops E dN
  rw [h2] at o3
  simp only at o3
  have n2 : (e2 != 0) = true := by simpa using c2
  clear hE h2 o3
  go_enter Tryz.func36, Tryz.ntmps36
  go_wp2_with fail
  refine C1.mono ?_
  rintro e w1 ⟨rfl, h⟩
  clear C1
  go_wp2_with fail
  refine (C2.out w1 h).mono ?_
  rintro e w2 ⟨rfl, rfl⟩
  clear C2
  go_wp2_with fail
  refine (C3.out w1 h).mono ?_
  rintro e w3 ⟨rfl, h⟩
  clear C3
  go_wp2
  go_ret2
  exact ⟨rfl, h⟩

theorem load_c3 {E : Dk} (hE : (disc D) = (0, E)) (h : HasD w0 w p D X) (ho : D.ops ≤ 1099511627776) (ho2 : E.ops + 4 ≤ 1099511627776) (hs : E.size dN < 0) {F : Dk} (h2 : E.create dN = (0, F)) {t : Bs} {G : Dk} {e3 : Int} (c3 : e3 ≠ 0) (h3 : F.read dN 0 (F.size dN) = (t, e3, G)) :
    Calls Tryz.prog 36 #[.pointer (some ⟨p, 0, none⟩)] w fun e w' => e = .returned (.tuple #[.string ⟨#[]⟩, .int .i64 e3]) ∧ HasD w0 w' p G X := by
  have C1 := disc_any h ho
  rw [hE] at C1
  have C2 := Lib.hid fun w' (h : HasD w0 w' p E X) => there_any h (s := dS) (by decide)
  rw [kl_dS, decide_eq_false (by omega)] at C2
  have C3 := Lib.hid fun w' (h : HasD w0 w' p E X) => has_create h (by omega) (s := dS) (by decide)
  rw [kl_dS, h2] at C3
  have o3 := create_ops E dN
  rw [h2] at o3
  simp only at o3
  have z1 := size_ge F dN
  have C4 := Lib.hid fun w' (h : HasD w0 w' p F X) => has_size h (s := dS) (by decide)
  rw [kl_dS] at C4
  have C5 := Lib.hid fun w' (h : HasD w0 w' p F X) => has_read h (by omega) (s := dS) (by decide) 0 (F.size dN) (by decide) (by have := size_le h.ok dN; omega)
  rw [kl_dS, h3] at C5
  have o5 := read_ops F dN 0 (F.size dN)
  rw [h3] at o5
  simp only at o5
  generalize F.size dN = z at C4 C5 z1
  have n3 : (e3 != 0) = true := by simpa using c3
  clear hE h2 o3 h3 o5
  go_enter Tryz.func36, Tryz.ntmps36
  go_wp2_with fail
  refine C1.mono ?_
  rintro e w1 ⟨rfl, h⟩
  clear C1
  go_wp2_with fail
  refine (C2.out w1 h).mono ?_
  rintro e w2 ⟨rfl, rfl⟩
  clear C2
  go_wp2_with fail
  refine (C3.out w1 h).mono ?_
  rintro e w3 ⟨rfl, h⟩
  clear C3
  go_wp2_with fail
  refine (C4.out w3 h).mono ?_
  rintro e w4 ⟨rfl, rfl⟩
  clear C4
  go_wp2_with fail
  refine (C5.out w3 h).mono ?_
  rintro e w5 ⟨rfl, h⟩
  clear C5
  go_wp2
  go_ret2
  exact ⟨rfl, h⟩

theorem load_c4 {E : Dk} (hE : (disc D) = (0, E)) (h : HasD w0 w p D X) (ho : D.ops ≤ 1099511627776) (ho2 : E.ops + 4 ≤ 1099511627776) (hs : E.size dN < 0) {F : Dk} (h2 : E.create dN = (0, F)) {t : Bs} {G : Dk} (h3 : F.read dN 0 (F.size dN) = (t, 0, G)) {I : Dk} {e4 : Int} (c4 : e4 ≠ 0) (h4 : G.sync dN = (e4, I)) :
    Calls Tryz.prog 36 #[.pointer (some ⟨p, 0, none⟩)] w fun e w' => e = .returned (.tuple #[.string ⟨#[]⟩, .int .i64 e4]) ∧ HasD w0 w' p I X := by
  have C1 := disc_any h ho
  rw [hE] at C1
  have C2 := Lib.hid fun w' (h : HasD w0 w' p E X) => there_any h (s := dS) (by decide)
  rw [kl_dS, decide_eq_false (by omega)] at C2
  have C3 := Lib.hid fun w' (h : HasD w0 w' p E X) => has_create h (by omega) (s := dS) (by decide)
  rw [kl_dS, h2] at C3
  have o3 := create_ops E dN
  rw [h2] at o3
  simp only at o3
  have z1 := size_ge F dN
  have C4 := Lib.hid fun w' (h : HasD w0 w' p F X) => has_size h (s := dS) (by decide)
  rw [kl_dS] at C4
  have C5 := Lib.hid fun w' (h : HasD w0 w' p F X) => has_read h (by omega) (s := dS) (by decide) 0 (F.size dN) (by decide) (by have := size_le h.ok dN; omega)
  rw [kl_dS, h3] at C5
  have o5 := read_ops F dN 0 (F.size dN)
  rw [h3] at o5
  simp only at o5
  generalize F.size dN = z at C4 C5 z1
  have C6 := Lib.hid fun w' (h : HasD w0 w' p G X) => has_sync h (by omega) (s := dS) (by decide)
  rw [kl_dS, h4] at C6
  have n4 : (e4 != 0) = true := by simpa using c4
  clear hE h2 o3 h3 o5 h4
  go_enter Tryz.func36, Tryz.ntmps36
  go_wp2_with fail
  refine C1.mono ?_
  rintro e w1 ⟨rfl, h⟩
  clear C1
  go_wp2_with fail
  refine (C2.out w1 h).mono ?_
  rintro e w2 ⟨rfl, rfl⟩
  clear C2
  go_wp2_with fail
  refine (C3.out w1 h).mono ?_
  rintro e w3 ⟨rfl, h⟩
  clear C3
  go_wp2_with fail
  refine (C4.out w3 h).mono ?_
  rintro e w4 ⟨rfl, rfl⟩
  clear C4
  go_wp2_with fail
  refine (C5.out w3 h).mono ?_
  rintro e w5 ⟨rfl, h⟩
  clear C5
  go_wp2_with fail
  refine (C6.out w5 h).mono ?_
  rintro e w6 ⟨rfl, h⟩
  clear C6
  go_wp2
  go_ret2
  exact ⟨rfl, h⟩

theorem load_c5 {E : Dk} (hE : (disc D) = (0, E)) (h : HasD w0 w p D X) (ho : D.ops ≤ 1099511627776) (ho2 : E.ops + 4 ≤ 1099511627776) (hs : E.size dN < 0) {F : Dk} (h2 : E.create dN = (0, F)) {t : Bs} {G : Dk} (h3 : F.read dN 0 (F.size dN) = (t, 0, G)) {I : Dk} (h4 : G.sync dN = (0, I)) :
    Calls Tryz.prog 36 #[.pointer (some ⟨p, 0, none⟩)] w fun e w' => e = .returned (.tuple #[.string ⟨t.toArray⟩, .int .i64 0]) ∧ HasD w0 w' p I X := by
  have C1 := disc_any h ho
  rw [hE] at C1
  have C2 := Lib.hid fun w' (h : HasD w0 w' p E X) => there_any h (s := dS) (by decide)
  rw [kl_dS, decide_eq_false (by omega)] at C2
  have C3 := Lib.hid fun w' (h : HasD w0 w' p E X) => has_create h (by omega) (s := dS) (by decide)
  rw [kl_dS, h2] at C3
  have o3 := create_ops E dN
  rw [h2] at o3
  simp only at o3
  have z1 := size_ge F dN
  have C4 := Lib.hid fun w' (h : HasD w0 w' p F X) => has_size h (s := dS) (by decide)
  rw [kl_dS] at C4
  have C5 := Lib.hid fun w' (h : HasD w0 w' p F X) => has_read h (by omega) (s := dS) (by decide) 0 (F.size dN) (by decide) (by have := size_le h.ok dN; omega)
  rw [kl_dS, h3] at C5
  have o5 := read_ops F dN 0 (F.size dN)
  rw [h3] at o5
  simp only at o5
  generalize F.size dN = z at C4 C5 z1
  have C6 := Lib.hid fun w' (h : HasD w0 w' p G X) => has_sync h (by omega) (s := dS) (by decide)
  rw [kl_dS, h4] at C6
  clear hE h2 o3 h3 o5 h4
  go_enter Tryz.func36, Tryz.ntmps36
  go_wp2_with fail
  refine C1.mono ?_
  rintro e w1 ⟨rfl, h⟩
  clear C1
  go_wp2_with fail
  refine (C2.out w1 h).mono ?_
  rintro e w2 ⟨rfl, rfl⟩
  clear C2
  go_wp2_with fail
  refine (C3.out w1 h).mono ?_
  rintro e w3 ⟨rfl, h⟩
  clear C3
  go_wp2_with fail
  refine (C4.out w3 h).mono ?_
  rintro e w4 ⟨rfl, rfl⟩
  clear C4
  go_wp2_with fail
  refine (C5.out w3 h).mono ?_
  rintro e w5 ⟨rfl, h⟩
  clear C5
  go_wp2_with fail
  refine (C6.out w5 h).mono ?_
  rintro e w6 ⟨rfl, h⟩
  clear C6
  go_wp2
  go_ret2
  exact ⟨rfl, h⟩

theorem load_n3 {E : Dk} (hE : (disc D) = (0, E)) (h : HasD w0 w p D X) (ho : D.ops ≤ 1099511627776) (ho2 : E.ops + 4 ≤ 1099511627776) (hs : ¬ E.size dN < 0) {t : Bs} {G : Dk} {e3 : Int} (c3 : e3 ≠ 0) (h3 : E.read dN 0 (E.size dN) = (t, e3, G)) :
    Calls Tryz.prog 36 #[.pointer (some ⟨p, 0, none⟩)] w fun e w' => e = .returned (.tuple #[.string ⟨#[]⟩, .int .i64 e3]) ∧ HasD w0 w' p G X := by
  have C1 := disc_any h ho
  rw [hE] at C1
  have C2 := Lib.hid fun w' (h : HasD w0 w' p E X) => there_any h (s := dS) (by decide)
  rw [kl_dS, decide_eq_true (by omega)] at C2
  have z1 := size_ge E dN
  have C4 := Lib.hid fun w' (h : HasD w0 w' p E X) => has_size h (s := dS) (by decide)
  rw [kl_dS] at C4
  have C5 := Lib.hid fun w' (h : HasD w0 w' p E X) => has_read h (by omega) (s := dS) (by decide) 0 (E.size dN) (by decide) (by have := size_le h.ok dN; omega)
  rw [kl_dS, h3] at C5
  have o5 := read_ops E dN 0 (E.size dN)
  rw [h3] at o5
  simp only at o5
  generalize E.size dN = z at C4 C5 z1
  have n3 : (e3 != 0) = true := by simpa using c3
  clear hE h3 o5
  go_enter Tryz.func36, Tryz.ntmps36
  go_wp2_with fail
  refine C1.mono ?_
  rintro e w1 ⟨rfl, h⟩
  clear C1
  go_wp2_with fail
  refine (C2.out w1 h).mono ?_
  rintro e w2 ⟨rfl, rfl⟩
  clear C2
  go_wp2_with fail
  refine (C4.out w1 h).mono ?_
  rintro e w4 ⟨rfl, rfl⟩
  clear C4
  go_wp2_with fail
  refine (C5.out w1 h).mono ?_
  rintro e w5 ⟨rfl, h⟩
  clear C5
  go_wp2
  go_ret2
  exact ⟨rfl, h⟩

theorem load_n4 {E : Dk} (hE : (disc D) = (0, E)) (h : HasD w0 w p D X) (ho : D.ops ≤ 1099511627776) (ho2 : E.ops + 4 ≤ 1099511627776) (hs : ¬ E.size dN < 0) {t : Bs} {G : Dk} (h3 : E.read dN 0 (E.size dN) = (t, 0, G)) {I : Dk} {e4 : Int} (c4 : e4 ≠ 0) (h4 : G.sync dN = (e4, I)) :
    Calls Tryz.prog 36 #[.pointer (some ⟨p, 0, none⟩)] w fun e w' => e = .returned (.tuple #[.string ⟨#[]⟩, .int .i64 e4]) ∧ HasD w0 w' p I X := by
  have C1 := disc_any h ho
  rw [hE] at C1
  have C2 := Lib.hid fun w' (h : HasD w0 w' p E X) => there_any h (s := dS) (by decide)
  rw [kl_dS, decide_eq_true (by omega)] at C2
  have z1 := size_ge E dN
  have C4 := Lib.hid fun w' (h : HasD w0 w' p E X) => has_size h (s := dS) (by decide)
  rw [kl_dS] at C4
  have C5 := Lib.hid fun w' (h : HasD w0 w' p E X) => has_read h (by omega) (s := dS) (by decide) 0 (E.size dN) (by decide) (by have := size_le h.ok dN; omega)
  rw [kl_dS, h3] at C5
  have o5 := read_ops E dN 0 (E.size dN)
  rw [h3] at o5
  simp only at o5
  generalize E.size dN = z at C4 C5 z1
  have C6 := Lib.hid fun w' (h : HasD w0 w' p G X) => has_sync h (by omega) (s := dS) (by decide)
  rw [kl_dS, h4] at C6
  have n4 : (e4 != 0) = true := by simpa using c4
  clear hE h3 o5 h4
  go_enter Tryz.func36, Tryz.ntmps36
  go_wp2_with fail
  refine C1.mono ?_
  rintro e w1 ⟨rfl, h⟩
  clear C1
  go_wp2_with fail
  refine (C2.out w1 h).mono ?_
  rintro e w2 ⟨rfl, rfl⟩
  clear C2
  go_wp2_with fail
  refine (C4.out w1 h).mono ?_
  rintro e w4 ⟨rfl, rfl⟩
  clear C4
  go_wp2_with fail
  refine (C5.out w1 h).mono ?_
  rintro e w5 ⟨rfl, h⟩
  clear C5
  go_wp2_with fail
  refine (C6.out w5 h).mono ?_
  rintro e w6 ⟨rfl, h⟩
  clear C6
  go_wp2
  go_ret2
  exact ⟨rfl, h⟩

theorem load_n5 {E : Dk} (hE : (disc D) = (0, E)) (h : HasD w0 w p D X) (ho : D.ops ≤ 1099511627776) (ho2 : E.ops + 4 ≤ 1099511627776) (hs : ¬ E.size dN < 0) {t : Bs} {G : Dk} (h3 : E.read dN 0 (E.size dN) = (t, 0, G)) {I : Dk} (h4 : G.sync dN = (0, I)) :
    Calls Tryz.prog 36 #[.pointer (some ⟨p, 0, none⟩)] w fun e w' => e = .returned (.tuple #[.string ⟨t.toArray⟩, .int .i64 0]) ∧ HasD w0 w' p I X := by
  have C1 := disc_any h ho
  rw [hE] at C1
  have C2 := Lib.hid fun w' (h : HasD w0 w' p E X) => there_any h (s := dS) (by decide)
  rw [kl_dS, decide_eq_true (by omega)] at C2
  have z1 := size_ge E dN
  have C4 := Lib.hid fun w' (h : HasD w0 w' p E X) => has_size h (s := dS) (by decide)
  rw [kl_dS] at C4
  have C5 := Lib.hid fun w' (h : HasD w0 w' p E X) => has_read h (by omega) (s := dS) (by decide) 0 (E.size dN) (by decide) (by have := size_le h.ok dN; omega)
  rw [kl_dS, h3] at C5
  have o5 := read_ops E dN 0 (E.size dN)
  rw [h3] at o5
  simp only at o5
  generalize E.size dN = z at C4 C5 z1
  have C6 := Lib.hid fun w' (h : HasD w0 w' p G X) => has_sync h (by omega) (s := dS) (by decide)
  rw [kl_dS, h4] at C6
  clear hE h3 o5 h4
  go_enter Tryz.func36, Tryz.ntmps36
  go_wp2_with fail
  refine C1.mono ?_
  rintro e w1 ⟨rfl, h⟩
  clear C1
  go_wp2_with fail
  refine (C2.out w1 h).mono ?_
  rintro e w2 ⟨rfl, rfl⟩
  clear C2
  go_wp2_with fail
  refine (C4.out w1 h).mono ?_
  rintro e w4 ⟨rfl, rfl⟩
  clear C4
  go_wp2_with fail
  refine (C5.out w1 h).mono ?_
  rintro e w5 ⟨rfl, h⟩
  clear C5
  go_wp2_with fail
  refine (C6.out w5 h).mono ?_
  rintro e w6 ⟨rfl, h⟩
  clear C6
  go_wp2
  go_ret2
  exact ⟨rfl, h⟩

theorem load_any (h : HasD w0 w p D X) (ho : D.ops + 5 ≤ 1099511627776) :
    Calls Tryz.prog 36 #[.pointer (some ⟨p, 0, none⟩)] w fun e w' => e = .returned (.tuple #[.string ⟨(load D).1.toArray⟩, .int .i64 (load D).2.1]) ∧ HasD w0 w' p (load D).2.2 X := by
  have od := disc_ops D
  cases hd : disc D with
  | mk e1 E =>
  rw [hd] at od
  simp only at od
  by_cases c1 : e1 = 0
  · subst c1
    have c1 : (disc D).1 = 0 := by rw [hd]
    by_cases hs : E.size dN < 0
    · have hm : make (disc D).2 = E.create dN := by rw [hd]; exact make_yes hs
      cases h2 : E.create dN with
      | mk e2 F =>
      rw [h2] at hm
      by_cases c2 : e2 = 0
      · subst c2
        cases h3 : F.read dN 0 (F.size dN) with
        | mk t r =>
        obtain ⟨e3, G⟩ := r
        by_cases c3 : e3 = 0
        · subst c3
          cases h4 : G.sync dN with
          | mk e4 I =>
          by_cases c4 : e4 = 0
          · subst c4
            rw [load5 c1 (by rw [hm]) (by rw [hm, h3]) (by rw [hm, h3]; simp only; rw [h4]), hm, h3]
            simp only
            rw [h4]
            exact load_c5 hd h (by omega) (by omega) hs h2 h3 h4
          · rw [load4 c1 (by rw [hm]) (by rw [hm, h3]) (by rw [hm, h3]; simp only; rw [h4]; exact c4), hm, h3]
            simp only
            rw [h4]
            exact load_c4 hd h (by omega) (by omega) hs h2 h3 c4 h4
        · rw [load3 c1 (by rw [hm]) (by rw [hm, h3]; exact c3), hm, h3]
          exact load_c3 hd h (by omega) (by omega) hs h2 c3 h3
      · rw [load2 c1 (by rw [hm]; exact c2), hm]
        exact load_c2 hd h (by omega) (by omega) hs h2 c2
    · have hm : make (disc D).2 = (0, E) := by rw [hd]; exact make_no hs
      cases h3 : E.read dN 0 (E.size dN) with
      | mk t r =>
      obtain ⟨e3, G⟩ := r
      by_cases c3 : e3 = 0
      · subst c3
        cases h4 : G.sync dN with
        | mk e4 I =>
        by_cases c4 : e4 = 0
        · subst c4
          rw [load5 c1 (by rw [hm]) (by rw [hm, h3]) (by rw [hm, h3]; simp only; rw [h4]), hm, h3]
          simp only
          rw [h4]
          exact load_n5 hd h (by omega) (by omega) hs h3 h4
        · rw [load4 c1 (by rw [hm]) (by rw [hm, h3]) (by rw [hm, h3]; simp only; rw [h4]; exact c4), hm, h3]
          simp only
          rw [h4]
          exact load_n4 hd h (by omega) (by omega) hs h3 c4 h4
      · rw [load3 c1 (by rw [hm]) (by rw [hm, h3]; exact c3), hm, h3]
        exact load_n3 hd h (by omega) (by omega) hs c3 h3
  · rw [load1 (by rw [hd]; exact c1), hd]
    exact load_d hd c1 h (by omega)

theorem repl1 {s : Bs} (c : (disc D).1 ≠ 0) : repl D s = disc D := by unfold repl; rw [if_pos c]
theorem repl2 {s : Bs} (c : (disc D).1 = 0) (c2 : ((disc D).2.create nN).1 ≠ 0) : repl D s = ((disc D).2.create nN) := by unfold repl; rw [if_neg (by simpa using c), if_pos c2]
theorem repl3 {s : Bs} (c : (disc D).1 = 0) (c2 : ((disc D).2.create nN).1 = 0) (c3 : (fill ((disc D).2.create nN).2 s).1 ≠ 0) : repl D s = (fill ((disc D).2.create nN).2 s) := by unfold repl; rw [if_neg (by simpa using c), if_neg (by simpa using c2), if_pos c3]
theorem repl4 {s : Bs} (c : (disc D).1 = 0) (c2 : ((disc D).2.create nN).1 = 0) (c3 : (fill ((disc D).2.create nN).2 s).1 = 0) (c4 : ((fill ((disc D).2.create nN).2 s).2.sync nN).1 ≠ 0) : repl D s = ((fill ((disc D).2.create nN).2 s).2.sync nN) := by unfold repl; rw [if_neg (by simpa using c), if_neg (by simpa using c2), if_neg (by simpa using c3), if_pos c4]
theorem repl5 {s : Bs} (c : (disc D).1 = 0) (c2 : ((disc D).2.create nN).1 = 0) (c3 : (fill ((disc D).2.create nN).2 s).1 = 0) (c4 : ((fill ((disc D).2.create nN).2 s).2.sync nN).1 = 0) : repl D s = ((fill ((disc D).2.create nN).2 s).2.sync nN).2.rename nN dN := by unfold repl; rw [if_neg (by simpa using c), if_neg (by simpa using c2), if_neg (by simpa using c3), if_neg (by simpa using c4)]
theorem fill_no (D : Dk) : fill D [] = (0, D) := rfl
theorem fill_yes {s : Bs} (h : s ≠ []) : fill D s = D.append nN s := by unfold fill; rw [if_neg h]

theorem repl_d {e1 : Int} {E : Dk} (hE : disc D = (e1, E)) (c : e1 ≠ 0) (h : HasD w0 w p D X) (ho : D.ops ≤ 1099511627776) (s : ByteArray) :
    Calls Tryz.prog 58 #[.pointer (some ⟨p, 0, none⟩), .string s] w fun e w' => e = .returned (.int .i64 e1) ∧ HasD w0 w' p E X := by
  have C1 := disc_any h ho
  rw [hE] at C1
  have n1 : (e1 != 0) = true := by simpa using c
  clear hE
  go_enter Tryz.func58, Tryz.ntmps58
  go_wp2_with fail
  refine C1.mono ?_
  rintro e w1 ⟨rfl, h⟩
  clear C1
  go_wp2
  go_ret
  exact ⟨rfl, h⟩

theorem repl_s2 {E : Dk} (hE : (disc D) = (0, E)) (h : HasD w0 w p D X) (ho : D.ops ≤ 1099511627776) (ho2 : E.ops + 4 ≤ 1099511627776) {s : ByteArray} (hs : s.size ≤ 1099511627) (hne : s.toList ≠ []) {F : Dk} {e2 : Int} (c2 : e2 ≠ 0) (h2 : E.create nN = (e2, F)) :
    Calls Tryz.prog 58 #[.pointer (some ⟨p, 0, none⟩), .string s] w fun e w' => e = .returned (.int .i64 e2) ∧ HasD w0 w' p F X := by
  have C1 := disc_any h ho
  rw [hE] at C1
  have C2 := Lib.hid fun w' (h : HasD w0 w' p E X) => has_create h (by omega) (s := nS) (by decide)
  rw [kl_nS, h2] at C2
  have o2 := create_ops E nN
  rw [h2] at o2
  simp only at o2
  have n2 : (e2 != 0) = true := by simpa using c2
  clear hE h2 o2
  go_enter Tryz.func58, Tryz.ntmps58
  go_wp2_with fail
  refine C1.mono ?_
  rintro e w1 ⟨rfl, h⟩
  clear C1
  go_wp2_with fail
  refine (C2.out w1 h).mono ?_
  rintro e w2 ⟨rfl, h⟩
  clear C2
  go_wp2
  go_ret
  exact ⟨rfl, h⟩

theorem repl_s3 {E : Dk} (hE : (disc D) = (0, E)) (h : HasD w0 w p D X) (ho : D.ops ≤ 1099511627776) (ho2 : E.ops + 4 ≤ 1099511627776) {s : ByteArray} (hs : s.size ≤ 1099511627) (hne : s.toList ≠ []) {F : Dk} (h2 : E.create nN = (0, F)) {G : Dk} {e3 : Int} (c3 : e3 ≠ 0) (h3 : F.append nN (kl s) = (e3, G)) :
    Calls Tryz.prog 58 #[.pointer (some ⟨p, 0, none⟩), .string s] w fun e w' => e = .returned (.int .i64 e3) ∧ HasD w0 w' p G X := by
  have C1 := disc_any h ho
  rw [hE] at C1
  have C2 := Lib.hid fun w' (h : HasD w0 w' p E X) => has_create h (by omega) (s := nS) (by decide)
  rw [kl_nS, h2] at C2
  have o2 := create_ops E nN
  rw [h2] at o2
  simp only at o2
  have C3 := Lib.hid fun w' (h : HasD w0 w' p F X) => has_append h (by omega) (s := nS) (t := s) (by decide) hs
  rw [kl_nS, h3] at C3
  have o3 := append_ops F nN (kl s)
  rw [h3] at o3
  simp only at o3
  have n3 : (e3 != 0) = true := by simpa using c3
  have he : (!s.toList.isEmpty) = true := by simpa using hne
  clear hE h2 o2 h3 o3
  go_enter Tryz.func58, Tryz.ntmps58
  go_wp2_with fail
  refine C1.mono ?_
  rintro e w1 ⟨rfl, h⟩
  clear C1
  go_wp2_with fail
  refine (C2.out w1 h).mono ?_
  rintro e w2 ⟨rfl, h⟩
  clear C2
  go_wp2_with fail
  refine (C3.out w2 h).mono ?_
  rintro e w3 ⟨rfl, h⟩
  clear C3
  go_wp2
  go_ret
  exact ⟨rfl, h⟩

theorem repl_s4 {E : Dk} (hE : (disc D) = (0, E)) (h : HasD w0 w p D X) (ho : D.ops ≤ 1099511627776) (ho2 : E.ops + 4 ≤ 1099511627776) {s : ByteArray} (hs : s.size ≤ 1099511627) (hne : s.toList ≠ []) {F : Dk} (h2 : E.create nN = (0, F)) {G : Dk} (h3 : F.append nN (kl s) = (0, G)) {I : Dk} {e4 : Int} (c4 : e4 ≠ 0) (h4 : G.sync nN = (e4, I)) :
    Calls Tryz.prog 58 #[.pointer (some ⟨p, 0, none⟩), .string s] w fun e w' => e = .returned (.int .i64 e4) ∧ HasD w0 w' p I X := by
  have C1 := disc_any h ho
  rw [hE] at C1
  have C2 := Lib.hid fun w' (h : HasD w0 w' p E X) => has_create h (by omega) (s := nS) (by decide)
  rw [kl_nS, h2] at C2
  have o2 := create_ops E nN
  rw [h2] at o2
  simp only at o2
  have C3 := Lib.hid fun w' (h : HasD w0 w' p F X) => has_append h (by omega) (s := nS) (t := s) (by decide) hs
  rw [kl_nS, h3] at C3
  have o3 := append_ops F nN (kl s)
  rw [h3] at o3
  simp only at o3
  have C4 := Lib.hid fun w' (h : HasD w0 w' p G X) => has_sync h (by omega) (s := nS) (by decide)
  rw [kl_nS, h4] at C4
  have o4 := sync_ops G nN
  rw [h4] at o4
  simp only at o4
  have n4 : (e4 != 0) = true := by simpa using c4
  have he : (!s.toList.isEmpty) = true := by simpa using hne
  clear hE h2 o2 h3 o3 h4 o4
  go_enter Tryz.func58, Tryz.ntmps58
  go_wp2_with fail
  refine C1.mono ?_
  rintro e w1 ⟨rfl, h⟩
  clear C1
  go_wp2_with fail
  refine (C2.out w1 h).mono ?_
  rintro e w2 ⟨rfl, h⟩
  clear C2
  go_wp2_with fail
  refine (C3.out w2 h).mono ?_
  rintro e w3 ⟨rfl, h⟩
  clear C3
  go_wp2_with fail
  refine (C4.out w3 h).mono ?_
  rintro e w4 ⟨rfl, h⟩
  clear C4
  go_wp2
  go_ret
  exact ⟨rfl, h⟩

theorem repl_s5 {E : Dk} (hE : (disc D) = (0, E)) (h : HasD w0 w p D X) (ho : D.ops ≤ 1099511627776) (ho2 : E.ops + 4 ≤ 1099511627776) {s : ByteArray} (hs : s.size ≤ 1099511627) (hne : s.toList ≠ []) {F : Dk} (h2 : E.create nN = (0, F)) {G : Dk} (h3 : F.append nN (kl s) = (0, G)) {I : Dk} (h4 : G.sync nN = (0, I)) :
    Calls Tryz.prog 58 #[.pointer (some ⟨p, 0, none⟩), .string s] w fun e w' => e = .returned (.int .i64 (I.rename nN dN).1) ∧ HasD w0 w' p (I.rename nN dN).2 X := by
  have C1 := disc_any h ho
  rw [hE] at C1
  have C2 := Lib.hid fun w' (h : HasD w0 w' p E X) => has_create h (by omega) (s := nS) (by decide)
  rw [kl_nS, h2] at C2
  have o2 := create_ops E nN
  rw [h2] at o2
  simp only at o2
  have C3 := Lib.hid fun w' (h : HasD w0 w' p F X) => has_append h (by omega) (s := nS) (t := s) (by decide) hs
  rw [kl_nS, h3] at C3
  have o3 := append_ops F nN (kl s)
  rw [h3] at o3
  simp only at o3
  have C4 := Lib.hid fun w' (h : HasD w0 w' p G X) => has_sync h (by omega) (s := nS) (by decide)
  rw [kl_nS, h4] at C4
  have o4 := sync_ops G nN
  rw [h4] at o4
  simp only at o4
  have C5 := Lib.hid fun w' (h : HasD w0 w' p I X) => has_rename h (by omega) (s := nS) (t := dS) (by decide) (by decide)
  rw [kl_nS, kl_dS] at C5
  generalize I.rename nN dN = r at C5 ⊢
  have he : (!s.toList.isEmpty) = true := by simpa using hne
  clear hE h2 o2 h3 o3 h4 o4
  go_enter Tryz.func58, Tryz.ntmps58
  go_wp2_with fail
  refine C1.mono ?_
  rintro e w1 ⟨rfl, h⟩
  clear C1
  go_wp2_with fail
  refine (C2.out w1 h).mono ?_
  rintro e w2 ⟨rfl, h⟩
  clear C2
  go_wp2_with fail
  refine (C3.out w2 h).mono ?_
  rintro e w3 ⟨rfl, h⟩
  clear C3
  go_wp2_with fail
  refine (C4.out w3 h).mono ?_
  rintro e w4 ⟨rfl, h⟩
  clear C4
  go_wp2_with fail
  refine (C5.out w4 h).mono ?_
  rintro e w5 ⟨rfl, h⟩
  clear C5
  go_wp2
  go_ret
  exact ⟨rfl, h⟩

theorem repl_n2 {E : Dk} (hE : (disc D) = (0, E)) (h : HasD w0 w p D X) (ho : D.ops ≤ 1099511627776) (ho2 : E.ops + 4 ≤ 1099511627776) {F : Dk} {e2 : Int} (c2 : e2 ≠ 0) (h2 : E.create nN = (e2, F)) :
    Calls Tryz.prog 58 #[.pointer (some ⟨p, 0, none⟩), .string ⟨#[]⟩] w fun e w' => e = .returned (.int .i64 e2) ∧ HasD w0 w' p F X := by
  have C1 := disc_any h ho
  rw [hE] at C1
  have C2 := Lib.hid fun w' (h : HasD w0 w' p E X) => has_create h (by omega) (s := nS) (by decide)
  rw [kl_nS, h2] at C2
  have o2 := create_ops E nN
  rw [h2] at o2
  simp only at o2
  have n2 : (e2 != 0) = true := by simpa using c2
  clear hE h2 o2
  go_enter Tryz.func58, Tryz.ntmps58
  go_wp2_with fail
  refine C1.mono ?_
  rintro e w1 ⟨rfl, h⟩
  clear C1
  go_wp2_with fail
  refine (C2.out w1 h).mono ?_
  rintro e w2 ⟨rfl, h⟩
  clear C2
  go_wp2
  go_ret
  exact ⟨rfl, h⟩

theorem repl_n4 {E : Dk} (hE : (disc D) = (0, E)) (h : HasD w0 w p D X) (ho : D.ops ≤ 1099511627776) (ho2 : E.ops + 4 ≤ 1099511627776) {F : Dk} (h2 : E.create nN = (0, F)) {I : Dk} {e4 : Int} (c4 : e4 ≠ 0) (h4 : F.sync nN = (e4, I)) :
    Calls Tryz.prog 58 #[.pointer (some ⟨p, 0, none⟩), .string ⟨#[]⟩] w fun e w' => e = .returned (.int .i64 e4) ∧ HasD w0 w' p I X := by
  have C1 := disc_any h ho
  rw [hE] at C1
  have C2 := Lib.hid fun w' (h : HasD w0 w' p E X) => has_create h (by omega) (s := nS) (by decide)
  rw [kl_nS, h2] at C2
  have o2 := create_ops E nN
  rw [h2] at o2
  simp only at o2
  have C4 := Lib.hid fun w' (h : HasD w0 w' p F X) => has_sync h (by omega) (s := nS) (by decide)
  rw [kl_nS, h4] at C4
  have o4 := sync_ops F nN
  rw [h4] at o4
  simp only at o4
  have n4 : (e4 != 0) = true := by simpa using c4
  clear hE h2 o2 h4 o4
  go_enter Tryz.func58, Tryz.ntmps58
  go_wp2_with fail
  refine C1.mono ?_
  rintro e w1 ⟨rfl, h⟩
  clear C1
  go_wp2_with fail
  refine (C2.out w1 h).mono ?_
  rintro e w2 ⟨rfl, h⟩
  clear C2
  go_wp2_with fail
  refine (C4.out w2 h).mono ?_
  rintro e w4 ⟨rfl, h⟩
  clear C4
  go_wp2
  go_ret
  exact ⟨rfl, h⟩

theorem repl_n5 {E : Dk} (hE : (disc D) = (0, E)) (h : HasD w0 w p D X) (ho : D.ops ≤ 1099511627776) (ho2 : E.ops + 4 ≤ 1099511627776) {F : Dk} (h2 : E.create nN = (0, F)) {I : Dk} (h4 : F.sync nN = (0, I)) :
    Calls Tryz.prog 58 #[.pointer (some ⟨p, 0, none⟩), .string ⟨#[]⟩] w fun e w' => e = .returned (.int .i64 (I.rename nN dN).1) ∧ HasD w0 w' p (I.rename nN dN).2 X := by
  have C1 := disc_any h ho
  rw [hE] at C1
  have C2 := Lib.hid fun w' (h : HasD w0 w' p E X) => has_create h (by omega) (s := nS) (by decide)
  rw [kl_nS, h2] at C2
  have o2 := create_ops E nN
  rw [h2] at o2
  simp only at o2
  have C4 := Lib.hid fun w' (h : HasD w0 w' p F X) => has_sync h (by omega) (s := nS) (by decide)
  rw [kl_nS, h4] at C4
  have o4 := sync_ops F nN
  rw [h4] at o4
  simp only at o4
  have C5 := Lib.hid fun w' (h : HasD w0 w' p I X) => has_rename h (by omega) (s := nS) (t := dS) (by decide) (by decide)
  rw [kl_nS, kl_dS] at C5
  generalize I.rename nN dN = r at C5 ⊢
  clear hE h2 o2 h4 o4
  go_enter Tryz.func58, Tryz.ntmps58
  go_wp2_with fail
  refine C1.mono ?_
  rintro e w1 ⟨rfl, h⟩
  clear C1
  go_wp2_with fail
  refine (C2.out w1 h).mono ?_
  rintro e w2 ⟨rfl, h⟩
  clear C2
  go_wp2_with fail
  refine (C4.out w2 h).mono ?_
  rintro e w4 ⟨rfl, h⟩
  clear C4
  go_wp2_with fail
  refine (C5.out w4 h).mono ?_
  rintro e w5 ⟨rfl, h⟩
  clear C5
  go_wp2
  go_ret
  exact ⟨rfl, h⟩

theorem repl_some (h : HasD w0 w p D X) (ho : D.ops + 5 ≤ 1099511627776) {s : ByteArray} (hs : s.size ≤ 1099511627) (hn : s.toList ≠ []) :
    Calls Tryz.prog 58 #[.pointer (some ⟨p, 0, none⟩), .string s] w fun e w' => e = .returned (.int .i64 (repl D (kl s)).1) ∧ HasD w0 w' p (repl D (kl s)).2 X := by
  have od := disc_ops D
  have hk : kl s ≠ [] := fun e => hn (by rw [ByteArray.toList_eq] ; exact e)
  cases hd : disc D with
  | mk e1 E =>
  rw [hd] at od
  simp only at od
  by_cases c1 : e1 = 0
  · subst c1
    have c1 : (disc D).1 = 0 := by rw [hd]
    cases h2 : E.create nN with
    | mk e2 F =>
    by_cases c2 : e2 = 0
    · subst c2
      cases h3 : F.append nN (kl s) with
      | mk e3 G =>
      have hf : fill (E.create nN).2 (kl s) = (e3, G) := by rw [h2, fill_yes hk]; exact h3
      by_cases c3 : e3 = 0
      · subst c3
        cases h4 : G.sync nN with
        | mk e4 I =>
        by_cases c4 : e4 = 0
        · subst c4
          rw [repl5 c1 (by rw [hd]; simp only; rw [h2]) (by rw [hd]; simp only; rw [hf]) (by rw [hd]; simp only; rw [hf]; simp only; rw [h4]), hd]
          simp only
          rw [hf]
          simp only
          rw [h4]
          exact repl_s5 hd h (by omega) (by omega) hs hn h2 h3 h4
        · rw [repl4 c1 (by rw [hd]; simp only; rw [h2]) (by rw [hd]; simp only; rw [hf]) (by rw [hd]; simp only; rw [hf]; simp only; rw [h4]; exact c4), hd]
          simp only
          rw [hf]
          simp only
          rw [h4]
          exact repl_s4 hd h (by omega) (by omega) hs hn h2 h3 c4 h4
      · rw [repl3 c1 (by rw [hd]; simp only; rw [h2]) (by rw [hd]; simp only; rw [hf]; exact c3), hd]
        simp only
        rw [hf]
        exact repl_s3 hd h (by omega) (by omega) hs hn h2 c3 h3
    · rw [repl2 c1 (by rw [hd]; simp only; rw [h2]; exact c2), hd]
      simp only
      rw [h2]
      exact repl_s2 hd h (by omega) (by omega) hs hn c2 h2
  · rw [repl1 (by rw [hd]; exact c1), hd]
    exact repl_d hd c1 h (by omega) _

theorem repl_none (h : HasD w0 w p D X) (ho : D.ops + 5 ≤ 1099511627776) :
    Calls Tryz.prog 58 #[.pointer (some ⟨p, 0, none⟩), .string ⟨#[]⟩] w fun e w' => e = .returned (.int .i64 (repl D ([])).1) ∧ HasD w0 w' p (repl D ([])).2 X := by
  have od := disc_ops D
  cases hd : disc D with
  | mk e1 E =>
  rw [hd] at od
  simp only at od
  by_cases c1 : e1 = 0
  · subst c1
    have c1 : (disc D).1 = 0 := by rw [hd]
    cases h2 : E.create nN with
    | mk e2 F =>
    by_cases c2 : e2 = 0
    · subst c2
      have hf : fill (E.create nN).2 [] = (0, F) := by rw [h2, fill_no]
      cases h4 : F.sync nN with
      | mk e4 I =>
      by_cases c4 : e4 = 0
      · subst c4
        rw [repl5 c1 (by rw [hd]; simp only; rw [h2]) (by rw [hd]; simp only; rw [hf]) (by rw [hd]; simp only; rw [hf]; simp only; rw [h4]), hd]
        simp only
        rw [hf]
        simp only
        rw [h4]
        exact repl_n5 hd h (by omega) (by omega) h2 h4
      · rw [repl4 c1 (by rw [hd]; simp only; rw [h2]) (by rw [hd]; simp only; rw [hf]) (by rw [hd]; simp only; rw [hf]; simp only; rw [h4]; exact c4), hd]
        simp only
        rw [hf]
        simp only
        rw [h4]
        exact repl_n4 hd h (by omega) (by omega) h2 c4 h4
    · rw [repl2 c1 (by rw [hd]; simp only; rw [h2]; exact c2), hd]
      simp only
      rw [h2]
      exact repl_n2 hd h (by omega) (by omega) c2 h2
  · rw [repl1 (by rw [hd]; exact c1), hd]
    exact repl_d hd c1 h (by omega) _

theorem repl_any (h : HasD w0 w p D X) (ho : D.ops + 5 ≤ 1099511627776) {s : ByteArray} (hs : s.size ≤ 1099511627) :
    Calls Tryz.prog 58 #[.pointer (some ⟨p, 0, none⟩), .string s] w fun e w' => e = .returned (.int .i64 (repl D (kl s)).1) ∧ HasD w0 w' p (repl D (kl s)).2 X := by
  by_cases c : s.toList = []
  · obtain rfl : s = ⟨#[]⟩ := by
      apply WideShapes.bytes_inj
      rw [ByteArray.toList_eq] at c
      simpa using c
    exact repl_none h ho
  · exact repl_some h ho hs c
end
end Go.Proofs.YtdmgobffhpgjlaaGreat.Sl.Dg
