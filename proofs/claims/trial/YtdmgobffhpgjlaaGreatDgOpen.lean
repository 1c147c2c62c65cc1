/-
  Contract of Open: the log of a disk, and its slips; and of Open of no disk.
-/
import Derived.Test.YtdmgobffhpgjlaaGreatDgLeaf
import Derived.Test.YtdmgobffhpgjlaaGreatDgRenew

namespace Go.Proofs.YtdmgobffhpgjlaaGreat.Sl.Dg
open Go.RowKit Go.PlainAid Go.Proofs.YtdmgobffhpgjlaaGreat.Cr
open Go.Proofs.YtdmgobffhpgjlaaGreat.Pk (Bs Fi Dk kl HasD usedF delF insF getF)
set_option linter.unusedVariables false
set_option maxRecDepth 20000
set_option linter.unusedSimpArgs false

theorem used_filter (P : Fi → Bool) : ∀ l : List Fi, usedF (l.filter P) ≤ usedF l
  | [] => by simp [usedF]
  | x :: r => by
    have := used_filter P r
    rw [List.filter_cons]
    split <;> simp only [usedF] <;> omega
theorem disc_used (D : Dk) : usedF (disc D).2.L ≤ usedF D.L := by
  obtain ⟨h1, _⟩ := Pk.beg_L D (Pk.isName nN)
  unfold disc
  split
  · exact Nat.le_refl _
  · unfold Dk.delete
    simp only
    split
    · rw [h1]; exact Nat.le_refl _
    · split
      · rw [h1]; exact Nat.le_refl _
      · rw [h1]; exact used_filter _ _
theorem make_used (D : Dk) : usedF (make D).2.L ≤ usedF D.L := by
  obtain ⟨h1, _⟩ := Pk.beg_L D (Pk.isName dN)
  unfold make
  split
  · unfold Dk.create
    simp only
    split
    · rw [h1]; exact Nat.le_refl _
    · split
      · rw [h1]; exact Nat.le_refl _
      · split
        · rw [h1]; exact Nat.le_refl _
        · rw [h1, Pk.used_ins]; simp
  · exact Nat.le_refl _
theorem read_used (D : Dk) (n : Bs) (a b : Int) : (D.read n a b).1.length ≤ usedF D.L := by
  obtain ⟨h1, _⟩ := Pk.beg_L D (Pk.isName n && decide (0 ≤ a) && decide (0 ≤ b))
  unfold Dk.read
  simp only
  split
  · simp
  · rw [h1]
    split
    · simp
    · rename_i f hf
      have := Pk.mem_used (Pk.get_some hf).1
      split
      · simp
      · simp only [List.length_take, List.length_drop]
        omega
theorem load_len {D : Dk} (ok : D.Ok) : (load D).1.length ≤ 4194304 := by
  have h1 := disc_used D
  have h2 := make_used (disc D).2
  have h3 := read_used (make (disc D).2).2 dN 0 ((make (disc D).2).2.size dN)
  have h4 := ok.used
  have h5 := ok.room1
  unfold load
  split
  · simp
  · split
    · simp
    · split
      · simp
      · split
        · simp
        · simp only; omega
theorem owns_mono {w : World} {M N T sz n : Nat} {v : Value} {xs : List Value} (h : w.ownsRow N T sz v n xs) (hM : M ≤ N) : w.ownsRow M T sz v n xs := by
  refine ⟨h.1, ?_⟩
  rcases h.2 with hn | ⟨g, cap, cur, e, hb, r⟩
  · exact .inl hn
  · exact .inr ⟨g, cap, cur, e, Nat.le_trans hM hb, r⟩
theorem HasL.kset {w0 w : World} {p q : Nat} {D : Dk} {L : Lg} {X : List (Nat × Obj)} (h : HasL w0 w p q D L X) (j : Nat) (v : Value) : Kp w (w.setCell ⟨q, j, none⟩ v) := by
  refine ⟨fun b c fr hb => Below.heap_setCell _ _ _ _ fun e => ?_⟩
  have := h.at.heap
  simp only at e
  rw [← e, hb] at this
  injection this with this
  injection this with _ this
  exact absurd this (by decide)
/-- what Open answers -/
def OpenPost (w0 w : World) (p : Nat) (D : Dk) (X : List (Nat × Obj)) (e : Ending) (w' : World) : Prop :=
  ((load D).2.1 ≠ 0 ∧ e = .returned (.tuple #[.pointer none, .slice none 0 0, .int .i64 (load D).2.1]) ∧ HasD w0 w' p (load D).2.2 X ∧ Kp w w') ∨
  ((load D).2.1 = 0 ∧ ∃ (q : Nat) (v : Value) (xs : List Sp) (n : Nat), e = .returned (.tuple #[.pointer (some ⟨q, 0, none⟩), v, .int .i64 0]) ∧ Reads (nb (load D).1) xs n ∧ (∀ x ∈ xs, Okay x) ∧ w'.ownsRow w0.heap.size 39 38 v xs.length (slsL xs) ∧
    HasL w0 w' p q (load D).2.2 ⟨(xs.length : Int), (n : Int), (xs.length : Int), decide (n < (load D).1.length)⟩ X ∧ Kp w w')
section
variable {w0 w w' : World} {p q : Nat} {D D' : Dk} {L L' : Lg} {X : List (Nat × Obj)}
set_option maxHeartbeats 2000000 in
theorem open_no {t : Bs} {e1 : Int} {E : Dk} (hE : load D = (t, e1, E)) (c : e1 ≠ 0) (h : HasD w0 w p D X) (ho : D.ops + 5 ≤ 1099511627776) :
    Calls Tryz.prog 7 #[.pointer (some ⟨p, 0, none⟩)] w fun e w' => e = .returned (.tuple #[.pointer none, .slice none 0 0, .int .i64 e1]) ∧ HasD w0 w' p E X := by
  have C1 := load_any h ho
  rw [hE] at C1
  have n1 : (e1 != 0) = true := by simpa using c
  clear hE
  go_enter Tryz.func7, Tryz.ntmps7
  go_wp2_with fail
  refine C1.mono ?_
  rintro e w1 ⟨rfl, h⟩
  clear C1
  go_wp2
  go_ret3
  exact ⟨rfl, h⟩
set_option maxHeartbeats 2000000 in
theorem open_yes {t : Bs} {E : Dk} (hE : load D = (t, 0, E)) (h : HasD w0 w p D X) (ho : D.ops + 5 ≤ 1099511627776) :
    Calls Tryz.prog 7 #[.pointer (some ⟨p, 0, none⟩)] w fun e w' => ∃ (q : Nat) (v : Value) (xs : List Sp) (n : Nat), e = .returned (.tuple #[.pointer (some ⟨q, 0, none⟩), v, .int .i64 0]) ∧ Reads (nb t) xs n ∧ (∀ x ∈ xs, Okay x) ∧ w'.ownsRow w0.heap.size 39 38 v xs.length (slsL xs) ∧
    HasL w0 w' p q E ⟨(xs.length : Int), (n : Int), (xs.length : Int), decide (n < t.length)⟩ X := by
  have C1 := load_any h ho
  have hz := load_len h.ok
  rw [hE] at C1 hz
  simp only at hz
  have hz2 : (⟨t.toArray⟩ : ByteArray).size = t.length := mk_size t
  have hz3 : (⟨t.toArray⟩ : ByteArray).size ≤ 4194304 := by omega
  have C2 := fun z : World => all_own ⟨t.toArray⟩ z (by omega)
  rw [bl_mk] at C2
  have HZ2 := Lib.hid hz2
  have C2 := Lib.hid C2
  clear hE hz2 hz
  generalize (⟨t.toArray⟩ : ByteArray) = s at C1 C2 hz3 HZ2
  go_enter Tryz.func7, Tryz.ntmps7
  go_wp2_with fail
  refine C1.mono ?_
  rintro e w1 ⟨rfl, h⟩
  clear C1
  go_wp2_with fail
  refine (C2.out w1).mono ?_
  rintro e w2 ⟨xs, n, v, rfl, own, ok, rd, G⟩
  clear C2
  replace own := owns_mono own h.below.size
  replace h := h.kept G
  have OK := Lib.hid ok
  have RD := Lib.hid rd
  obtain ⟨l1, l2⟩ := reads_le rd
  rw [nb_len] at l1
  have l3 : n ≤ 4194304 := by have := HZ2.out; omega
  clear rd ok G l1
  obtain ⟨g, cap, rfl⟩ : ∃ g cap, v = .slice g xs.length cap := by
    rcases own.2 with ⟨rfl, e⟩ | ⟨g, cap, cur, rfl, _⟩
    · exact ⟨none, 0, by rw [e]⟩
    · exact ⟨_, cap, rfl⟩
  have l4 : xs.length ≤ 4194304 := by omega
  have Z := At.new w2 82 #[.pointer (some ⟨p, 0, none⟩), .int .i64 0, .int .i64 0, .int .i64 0, .bool false]
  have F : Below w2.heap.size w2 (w2.alloc (.cells #[.pointer (some ⟨p, 0, none⟩), .int .i64 0, .int .i64 0, .int .i64 0, .bool false] 82)) := (Below.refl _ _).alloc (Nat.le_refl _) _
  have hl : HasL w0 (w2.alloc (.cells #[.pointer (some ⟨p, 0, none⟩), .int .i64 0, .int .i64 0, .int .i64 0, .bool false] 82)) p w2.heap.size E ⟨0, 0, 0, false⟩ X := has_log h F (Nat.le_refl _) Z.heap
  replace own := (Kp.of_below F).owns own
  clear Z F h l2
  go_upto_region 8 with (fail)
  generalize w2.alloc (.cells #[.pointer (some ⟨p, 0, none⟩), .int .i64 0, .int .i64 0, .int .i64 0, .bool false] 82) = w3 at own hl ⊢
  generalize w2.heap.size = q at hl ⊢
  have R := hl.frame (R := fun e _ => e = .returned (.tuple #[])) fun X h => renew_any h (xs.length : Int) (n : Int)
  clear hl
  go_wp2_with fail
  refine R.mono ?_
  rintro e w4 ⟨rfl, hl, k⟩
  clear R
  replace own := k.owns own
  clear k
  have c4 : w4.cell? ⟨q, 4, none⟩ = some (.bool false) := hl.at.cell 4
  have f4 : w4.frozen? ⟨q, 4, none⟩ = false := hl.at.frozen 4
  have hd : decide (n < s.size) = decide (n < t.length) := by rw [HZ2.out]
  have h5 := hl.set (L' := ⟨(xs.length : Int), (n : Int), (xs.length : Int), decide (n < s.size)⟩) 4 (.bool (decide (n < s.size))) rfl
  have o5 := (hl.kset 4 (.bool (decide (n < s.size)))).owns own
  have HD := Lib.hid hd
  clear hd hl own
  go_wp2
  go_ret3
  exact ⟨q, _, xs, n, rfl, RD.out, OK.out, o5, by rw [← HD.out]; exact h5⟩
theorem open_any (h : HasD w0 w p D X) (ho : D.ops + 5 ≤ 1099511627776) :
    Calls Tryz.prog 7 #[.pointer (some ⟨p, 0, none⟩)] w fun e w' => OpenPost w0 w p D X e w' := by
  cases hE : load D with
  | mk t r =>
  obtain ⟨e1, E⟩ := r
  by_cases c : e1 = 0
  · subst c
    refine (open_yes hE (has_slips h) ho).mono ?_
    rintro e w' ⟨q, v, xs, n, rfl, rd, ok, own, hl⟩
    exact .inr ⟨by rw [hE], q, v, xs, n, rfl, by rw [hE]; exact rd, ok, own, by rw [hE]; exact hl.less fun x hx => List.mem_append_right _ hx, kp_of hl.disk⟩
  · refine (open_no hE c (has_slips h) ho).mono ?_
    rintro e w' ⟨rfl, h'⟩
    exact .inl ⟨by rw [hE]; exact c, by rw [hE], by rw [hE]; exact h'.less fun x hx => List.mem_append_right _ hx, kp_of h'⟩
end
end Go.Proofs.YtdmgobffhpgjlaaGreat.Sl.Dg
