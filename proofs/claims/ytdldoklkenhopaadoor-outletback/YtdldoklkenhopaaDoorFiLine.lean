/-
  Contracts of lineAt and startOf of package field.
-/
import Derived.Test.YtdldoklkenhopaaDoorFiParse
namespace Go.Proofs.YtdldoklkenhopaaDoor.Fi
open Go.RowKit Go.PlainAid
open Hx
set_option linter.unusedVariables false
set_option maxRecDepth 20000
set_option linter.unusedSimpArgs false

theorem lineF_err {full : Bool} {l : List UInt8} {e : Int} (h : lineF full l = .error e) :
    (cutB 10 l = none ∧ e = (if full = true then 4 else 17)) ∨ (∃ t r, cutB 10 l = some (t, r) ∧ e = 3 ∧ (t.getLast? ≠ some 13 ∨ ∃ x, t = x ++ [13] ∧ (13 : UInt8) ∈ x)) := by
  unfold lineF at h
  cases hc : cutB 10 l with
  | none => rw [hc] at h; simp at h; exact .inl ⟨rfl, h.symm⟩
  | some p =>
    obtain ⟨t, r⟩ := p
    rw [hc] at h
    simp only at h
    split at h
    · cases h
    · rename_i hn
      refine .inr ⟨t, r, rfl, by cases h; rfl, ?_⟩
      by_cases c : t.getLast? = some 13
      · right
        obtain ⟨x, rfl⟩ := List.getLast?_eq_some_iff.1 c
        refine ⟨x, rfl, ?_⟩
        by_cases m : (13 : UInt8) ∈ x
        · exact m
        · exact absurd ⟨c, by simpa using m⟩ hn
      · exact .inl c
theorem lineF_ne {full : Bool} {l : List UInt8} {e : Int} (h : lineF full l = .error e) : e = 3 ∨ e = 4 ∨ e = 17 := by
  rcases lineF_err h with ⟨_, e⟩ | ⟨t, r, _, e, _⟩
  · split at e <;> omega
  · omega
theorem drop_is (s : ByteArray) (k : Nat) : ls (s.extract k s.size) = (ls s).drop k := by
  rw [ls_extract]
  exact List.take_of_length_le (by rw [List.length_drop, ls_len]; exact Nat.le_refl _)
set_option maxHeartbeats 1000000 in
theorem lineAt_err (head : ByteArray) (k : Nat) (w : World) (hs : head.size ≤ 1099511627776) (hk : k ≤ head.size) {e0 : Int} (h : lineF (decide (head.size = 4096)) ((ls head).drop k) = .error e0) :
    Calls Tryd.prog 38 #[.string head, .int .i64 k] w fun e w' => e = .returned (.tuple #[.string ⟨#[]⟩, .int .i64 0, .int .i64 e0]) ∧ Below w.heap.size w w' := by
  have i1 : (0 : Int) ≤ (k : Int) := Int.natCast_nonneg _
  have i2 : (k : Int) ≤ (head.size : Int) := by omega
  have ht : (head.extract k head.size).size ≤ 1099511627776 := by rw [ByteArray.size_extract]; omega
  rcases lineF_err h with ⟨hc, he⟩ | ⟨t, r, hc, rfl, ht2⟩
  · have r1 := fun w => cut_no (head.extract k head.size) 10 w ht (by rw [drop_is]; exact hc)
    clear hc h ht
    by_cases hz : head.size = 4096
    · rw [decide_eq_true hz] at he
      obtain rfl : e0 = 4 := by simpa using he
      clear he
      have g : ((head.size : Int) == 4096) = true := by rw [hz]; rfl
      clear hz
      go_enter Tryd.func38, Tryd.ntmps38
      go_wp2_with fail
      refine (r1 _).mono ?_
      rintro e w1 ⟨rfl, G⟩
      clear r1
      go_wp2
      go_ret3
      exact ⟨rfl, G⟩
    · rw [decide_eq_false hz] at he
      obtain rfl : e0 = 17 := by simpa using he
      clear he
      have g : ((head.size : Int) == 4096) = false := by rw [beq_eq_false_iff_ne]; omega
      clear hz
      go_enter Tryd.func38, Tryd.ntmps38
      go_wp2_with fail
      refine (r1 _).mono ?_
      rintro e w1 ⟨rfl, G⟩
      clear r1
      go_wp2
      go_ret3
      exact ⟨rfl, G⟩
  · have r1 := fun w => cut_yes (head.extract k head.size) 10 w ht (by rw [drop_is]; exact hc)
    have hl := cutB_len hc
    rw [List.length_drop, ls_len] at hl
    clear hc h ht
    rcases ht2 with hn | ⟨x, rfl, hm⟩
    · have r2 := fun w => suf_no (tx t) w (by rw [tx_size]; omega) (by rw [ls_tx]; exact hn)
      clear hn
      generalize tx t = T at r1 r2
      generalize tx r = R at r1
      go_enter Tryd.func38, Tryd.ntmps38
      go_wp2_with fail
      refine (r1 _).mono ?_
      rintro e w1 ⟨rfl, G⟩
      clear r1
      go_wp2_with fail
      refine (r2 _).mono ?_
      rintro e w2 ⟨rfl, rfl⟩
      clear r2
      go_wp2
      go_ret3
      exact ⟨rfl, G⟩
    · rw [List.length_append] at hl
      have r2 := fun w => suf_yes (tx (x ++ [13])) x w (by rw [tx_size, List.length_append]; omega) (by rw [ls_tx])
      have r3 := fun w => has13_any (tx x) w (by rw [tx_size]; omega)
      rw [ls_tx, decide_eq_true hm] at r3
      clear hm
      generalize tx (x ++ [13]) = T at r1 r2
      generalize tx r = R at r1
      generalize tx x = X at r2 r3
      go_enter Tryd.func38, Tryd.ntmps38
      go_wp2_with fail
      refine (r1 _).mono ?_
      rintro e w1 ⟨rfl, G⟩
      clear r1
      go_wp2_with fail
      refine (r2 _).mono ?_
      rintro e w2 ⟨rfl, rfl⟩
      clear r2
      go_wp2_with fail
      refine (r3 _).mono ?_
      rintro e w2 ⟨rfl, rfl⟩
      clear r3
      go_wp2
      go_ret3
      exact ⟨rfl, G⟩
theorem lineF_cut {full : Bool} {l x r : List UInt8} (h : lineF full l = .ok (x, r)) : cutB 10 l = some (x ++ [13], r) ∧ (13 : UInt8) ∉ x := by
  obtain ⟨e, h3, h0⟩ := lineF_ok h
  refine ⟨?_, h3⟩
  rw [e, show x ++ 13 :: 10 :: r = (x ++ [13]) ++ 10 :: r by simp]
  exact cutB_of (by simp [h0])
set_option maxHeartbeats 1000000 in
theorem lineAt_ok (head : ByteArray) (k : Nat) (w : World) (hs : head.size ≤ 1099511627776) (hk : k ≤ head.size) {x r : List UInt8} (h : lineF (decide (head.size = 4096)) ((ls head).drop k) = .ok (x, r)) :
    Calls Tryd.prog 38 #[.string head, .int .i64 k] w fun e w' => e = .returned (.tuple #[.string (tx x), .int .i64 (k + x.length + 2 : Nat), .int .i64 0]) ∧ Below w.heap.size w w' := by
  have i1 : (0 : Int) ≤ (k : Int) := Int.natCast_nonneg _
  have i2 : (k : Int) ≤ (head.size : Int) := by omega
  have ht : (head.extract k head.size).size ≤ 1099511627776 := by rw [ByteArray.size_extract]; omega
  obtain ⟨hc, hm⟩ := lineF_cut h
  have r1 := fun w => cut_yes (head.extract k head.size) 10 w ht (by rw [drop_is]; exact hc)
  have hl := cutB_len hc
  rw [List.length_drop, ls_len, List.length_append] at hl
  have r2 := fun w => suf_yes (tx (x ++ [13])) x w (by rw [tx_size, List.length_append]; omega) (by rw [ls_tx])
  have r3 := fun w => has13_any (tx x) w (by rw [tx_size]; omega)
  rw [ls_tx, decide_eq_false hm] at r3
  have hz : (tx (x ++ [13])).size = x.length + 1 := by rw [tx_size, List.length_append]; rfl
  clear hm hc h ht
  generalize tx (x ++ [13]) = T at r1 r2 hz
  generalize tx r = R at r1
  generalize hX : tx x = X at r2 r3
  have HX := Lib.hid hX
  clear hX
  have HZ := Lib.hid hz
  have hz2 : (T.size : Int) ≤ 1099511627776 := by omega
  have e1 : (k : Int) + (T.size : Int) + 1 = ((k + x.length + 2 : Nat) : Int) := by omega
  have E1 := Lib.hid e1
  have hl2 : (x.length : Int) + 1 ≤ (head.size : Int) := by simp at hl; omega
  simp at hl
  clear hz e1
  go_enter Tryd.func38, Tryd.ntmps38
  go_wp2_with fail
  refine (r1 _).mono ?_
  rintro e w1 ⟨rfl, G⟩
  clear r1
  go_wp2_with fail
  refine (r2 _).mono ?_
  rintro e w2 ⟨rfl, rfl⟩
  clear r2
  go_wp2_with fail
  refine (r3 _).mono ?_
  rintro e w2 ⟨rfl, rfl⟩
  clear r3
  go_wp2
  go_ret3
  exact ⟨by first | (rw [← E1.out]; rfl) | (rw [← E1.out, HX.out]; rfl), G⟩
theorem tx_nil_of {x : List UInt8} (h : x = []) : (tx x).toList = [] := toList_nil _ (by subst h; rfl)
theorem tx_ne_of {x : List UInt8} (h : x ≠ []) : (tx x).toList.isEmpty = false ∧ ¬ (tx x).toList = [] := by
  have hz : 0 < (tx x).size := by
    rw [tx_size]
    cases x with
    | nil => exact absurd rfl h
    | cons a b => simp
  exact ⟨toList_ne _ hz, toList_ne' _ hz⟩
/-- the start line -/
def stF (full : Bool) (l : List UInt8) : Except Int (List UInt8 × List UInt8) :=
  match lineF full l with
  | .error e => .error e
  | .ok (x, r) => if x = [] then .error 3 else if 1024 < x.length then .error 4 else .ok (x, r)
theorem stF_of {full : Bool} {l : List UInt8} : ∀ {e : Int}, lineF full l = .error e → stF full l = .error e := by
  intro e h; unfold stF; rw [h]
def StPost (full : Bool) (l : List UInt8) (w : World) (e : Ending) (w' : World) : Prop :=
  ((∃ x r, stF full l = .ok (x, r) ∧ e = .returned (.tuple #[.string (tx x), .int .i64 (x.length + 2 : Nat), .int .i64 0])) ∨ (∃ e0, stF full l = .error e0 ∧ e = .returned (.tuple #[.string ⟨#[]⟩, .int .i64 0, .int .i64 e0]))) ∧ Below w.heap.size w w'
theorem startOf_any (head : ByteArray) (w : World) (hs : head.size ≤ 1099511627776) :
    Calls Tryd.prog 21 #[.string head] w (StPost (decide (head.size = 4096)) (ls head) w) := by
  cases h : lineF (decide (head.size = 4096)) (ls head) with
  | error e0 =>
    have hne := lineF_ne h
    have r1 := fun w => lineAt_err head 0 w hs (Nat.zero_le _) (by rw [List.drop_zero]; exact h)
    have H := Lib.hid (stF_of h)
    have g : (e0 != 0) = true := by rw [bne_iff_ne]; omega
    clear h hne
    go_enter Tryd.func21, Tryd.ntmps21
    go_wp2_with fail
    refine (r1 _).mono ?_
    rintro e w1 ⟨rfl, G⟩
    clear r1
    go_wp2
    go_ret3
    exact ⟨.inr ⟨e0, H.out, rfl⟩, G⟩
  | ok p =>
    obtain ⟨x, r⟩ := p
    have r1 := fun w => lineAt_ok head 0 w hs (Nat.zero_le _) (by rw [List.drop_zero]; exact h)
    have hl := lineF_len h
    rw [ls_len] at hl
    by_cases hx : x = []
    · have H := Lib.hid (show stF (decide (head.size = 4096)) (ls head) = .error 3 by unfold stF; rw [h]; simp only; rw [if_pos hx])
      have t1 := tx_nil_of hx
      subst hx
      clear h
      generalize tx [] = X at r1 t1
      go_enter Tryd.func21, Tryd.ntmps21
      go_wp2_with fail
      refine (r1 _).mono ?_
      rintro e w1 ⟨rfl, G⟩
      clear r1
      go_wp2
      go_ret3
      exact ⟨.inr ⟨3, H.out, rfl⟩, G⟩
    · obtain ⟨t1, t2⟩ := tx_ne_of hx
      have hz : (tx x).size = x.length := tx_size x
      by_cases hc : 1024 < x.length
      · have H := Lib.hid (show stF (decide (head.size = 4096)) (ls head) = .error 4 by unfold stF; rw [h]; simp only; rw [if_neg hx, if_pos hc])
        clear h hx
        generalize tx x = X at r1 t1 t2 hz
        have l1 : (1024 : Int) < (X.size : Int) := by omega
        clear hz
        go_enter Tryd.func21, Tryd.ntmps21
        go_wp2_with fail
        refine (r1 _).mono ?_
        rintro e w1 ⟨rfl, G⟩
        clear r1
        go_wp2
        go_ret3
        exact ⟨.inr ⟨4, H.out, rfl⟩, G⟩
      · have H := Lib.hid (show stF (decide (head.size = 4096)) (ls head) = .ok (x, r) by unfold stF; rw [h]; simp only; rw [if_neg hx, if_neg hc])
        clear h hx
        generalize hX : tx x = X at r1 t1 t2 hz
        have HX := Lib.hid hX
        clear hX
        have l1 : ¬ (1024 : Int) < (X.size : Int) := by omega
        clear hz
        rw [Nat.zero_add] at r1
        go_enter Tryd.func21, Tryd.ntmps21
        go_wp2_with fail
        refine (r1 _).mono ?_
        rintro e w1 ⟨rfl, G⟩
        clear r1
        go_wp2
        go_ret3
        exact ⟨.inl ⟨x, r, H.out, by first | rfl | (rw [HX.out]; rfl)⟩, G⟩
end Go.Proofs.YtdldoklkenhopaaDoor.Fi
