/-
  Contracts of the library's CutSuffix and HasPrefix at the end of a line.
  Contract of the library's IndexAny at a blank, a tab, a semicolon, for every text: what is no letter of theirs is not found.
  Contract of the library's IndexAny at a blank, a tab, a semicolon, for every text.
  Contracts of isText and sizeOf of package chunk: the number of a chunk's line.
  Contracts of the methods by which a body in chunks is read: data, its end, a line, its number, a field.
  Contracts of the methods by which a body in chunks is read: data, its end, a line, its number, a field.
  Contracts of the methods by which a body in chunks is read: data, its end, a line, its number, a field.
-/
import Derived.Test.YtbngfphiachnoaaGreatDoorSet2
import Derived.Lib.AsciiSet
import Derived.Lib.IndexAny
import Derived.Laws.RangeString
import Derived.Laws.Runes
import Derived.Deep.DeepCutAuto
import Derived.BigQuiet
import Derived.Deep.QuietTactic
import Derived.Deep.LoopGhost
import Derived.WalkMore
import Derived.Test.YtbngfphiachnoaaGreatDoorSet4
import Derived.Test.YtbngfphiachnoaaGreatDoorSet1
section
namespace Go.Proofs.YtbngfphiachnoaaGreatDoor.Ch
open Go.RowKit Go.PlainAid
open Hx Fi
set_option linter.unusedVariables false
set_option maxRecDepth 20000
set_option linter.unusedSimpArgs false

theorem hasEnd_few (s : ByteArray) (w : World) (h : s.size < 2) :
    Calls Tryz.prog 131 #[.string s, .string ⟨#[13, 10]⟩] w fun e w' => e = .returned (.bool false) ∧ w = w' := by
  have i1 : (s.size : Int) < 2 := by omega
  clear h
  go_enter Tryz.func131, Tryz.ntmps131
  go_wp2
  all_goals go_ret
  all_goals exact ⟨rfl, rfl⟩
theorem hasEnd_some (s : ByteArray) (n : Nat) (v : Bool) (w : World) (h : s.size = n + 2) (hs : s.size ≤ 1099511627776) (hv : ((s.extract n s.size).toList == [13, 10]) = v) :
    Calls Tryz.prog 131 #[.string s, .string ⟨#[13, 10]⟩] w fun e w' => e = .returned (.bool v) ∧ w = w' := by
  have i1 : (s.size : Int) - 2 = (n : Int) := by omega
  have i2 : (n : Int) ≤ (s.size : Int) := by omega
  have i3 : (2 : Int) ≤ (s.size : Int) := by omega
  clear h
  go_enter Tryz.func131, Tryz.ntmps131
  go_wp2
  all_goals go_ret
  all_goals exact ⟨rfl, rfl⟩
theorem last_two {s : ByteArray} {n : Nat} (h : s.size = n + 2) : ls (s.extract n s.size) = (ls s).drop n := by
  rw [ls_extract]
  exact List.take_of_length_le (by rw [List.length_drop, ls_len]; omega)
theorem end_yes (s : ByteArray) (x : List UInt8) (w : World) (hs : s.size ≤ 1099511627776) (h : ls s = x ++ [13, 10]) :
    Calls Tryz.prog 104 #[.string s, .string ⟨#[13, 10]⟩] w fun e w' => e = .returned (.tuple #[.string (tx x), .bool true]) ∧ w = w' := by
  have hz : s.size = x.length + 2 := by rw [← ls_len, h]; simp
  have e1 : s.extract 0 x.length = tx x := ls_inj (by rw [ls_extract, ls_tx, h]; simp)
  have r := hasEnd_some s x.length true w hz hs (by rw [ls_toList, last_two hz, h]; simp)
  have i1 : (s.size : Int) - 2 = (x.length : Int) := by omega
  have i2 : (x.length : Int) ≤ (s.size : Int) := by omega
  have E1 := Lib.hid e1
  clear h hz e1
  have low : Calls Tryz.prog 119 #[.string s, .string ⟨#[13, 10]⟩] w fun e w' => e = .returned (.tuple #[.string (tx x), .bool true]) ∧ w = w' := by
    go_enter Tryz.func119, Tryz.ntmps119
    go_wp2_with fail
    refine r.mono ?_
    rintro e w' ⟨rfl, rfl⟩
    clear r
    go_wp2
    go_ret2
    exact ⟨by rw [← E1.out]; rfl, rfl⟩
  clear r i1 i2
  generalize tx x = x1 at *
  go_enter Tryz.func104, Tryz.ntmps104
  go_wp2_with fail
  refine low.mono ?_
  rintro e w' ⟨rfl, rfl⟩
  clear low
  go_wp2
  go_ret2
  exact ⟨rfl, rfl⟩
theorem end_no (s : ByteArray) (w : World) (hs : s.size ≤ 1099511627776) (h : ∀ x, ls s ≠ x ++ [13, 10]) :
    Calls Tryz.prog 104 #[.string s, .string ⟨#[13, 10]⟩] w fun e w' => e = .returned (.tuple #[.string s, .bool false]) ∧ w = w' := by
  have r : Calls Tryz.prog 131 #[.string s, .string ⟨#[13, 10]⟩] w fun e w' => e = .returned (.bool false) ∧ w = w' := by
    by_cases h0 : s.size < 2
    · exact hasEnd_few s w h0
    · obtain ⟨n, hn⟩ : ∃ n, s.size = n + 2 := ⟨s.size - 2, by omega⟩
      refine hasEnd_some s n false w hn hs ?_
      rw [ls_toList, last_two hn, beq_eq_false_iff_ne]
      intro e
      apply h ((ls s).take n)
      rw [← e, List.take_append_drop]
  clear h
  have low : Calls Tryz.prog 119 #[.string s, .string ⟨#[13, 10]⟩] w fun e w' => e = .returned (.tuple #[.string s, .bool false]) ∧ w = w' := by
    go_enter Tryz.func119, Tryz.ntmps119
    go_wp2_with fail
    refine r.mono ?_
    rintro e w' ⟨rfl, rfl⟩
    clear r
    go_wp2
    go_ret2
    exact ⟨rfl, rfl⟩
  clear r
  go_enter Tryz.func104, Tryz.ntmps104
  go_wp2_with fail
  refine low.mono ?_
  rintro e w' ⟨rfl, rfl⟩
  clear low
  go_wp2
  go_ret2
  exact ⟨rfl, rfl⟩
/-- the end of a line has a text of one or two bytes as its beginning -/
theorem hasPre_one (c : UInt8) (w : World) :
    Calls Tryz.prog 103 #[.string ⟨#[13, 10]⟩, .string (tx [c])] w fun e w' => e = .returned (.bool (c == 13)) ∧ w = w' := by
  have hz : (tx [c]).size = 1 := rfl
  have ht : (((⟨#[13, 10]⟩ : ByteArray).extract 0 1).toList == (tx [c]).toList) = (c == 13) := by
    rw [show (⟨#[13, 10]⟩ : ByteArray).extract 0 1 = ⟨#[13]⟩ by decide, ls_toList, ls_toList, ls_tx, Bool.eq_iff_iff]; simp [ls]; exact eq_comm
  generalize tx [c] = t at *
  have low : Calls Tryz.prog 110 #[.string ⟨#[13, 10]⟩, .string t] w fun e w' => e = .returned (.bool (c == 13)) ∧ w = w' := by
    generalize (c == 13) = v at *
    go_enter Tryz.func110, Tryz.ntmps110
    go_wp2
    all_goals go_ret
    all_goals exact ⟨rfl, rfl⟩
  clear hz ht
  generalize (c == 13) = v at *
  go_enter Tryz.func103, Tryz.ntmps103
  go_wp2_with fail
  refine low.mono ?_
  rintro e w' ⟨rfl, rfl⟩
  clear low
  go_wp2
  go_ret
  exact ⟨rfl, rfl⟩
theorem hasPre_two (c : UInt8) (hc : c ≠ 10) (w : World) :
    Calls Tryz.prog 103 #[.string ⟨#[13, 10]⟩, .string (tx [13, c])] w fun e w' => e = .returned (.bool false) ∧ w = w' := by
  have hz : (tx [13, c]).size = 2 := rfl
  have ht : (((⟨#[13, 10]⟩ : ByteArray).extract 0 2).toList == (tx [13, c]).toList) = false := by
    rw [show (⟨#[13, 10]⟩ : ByteArray).extract 0 2 = ⟨#[13, 10]⟩ by decide, ls_toList, ls_toList, ls_tx, beq_eq_false_iff_ne]; intro e; simp [ls] at e; exact hc e.symm
  generalize tx [13, c] = t at *
  have low : Calls Tryz.prog 110 #[.string ⟨#[13, 10]⟩, .string t] w fun e w' => e = .returned (.bool false) ∧ w = w' := by
    go_enter Tryz.func110, Tryz.ntmps110
    go_wp2
    all_goals go_ret
    all_goals exact ⟨rfl, rfl⟩
  clear hz ht
  go_enter Tryz.func103, Tryz.ntmps103
  go_wp2_with fail
  refine low.mono ?_
  rintro e w' ⟨rfl, rfl⟩
  clear low
  go_wp2
  go_ret
  exact ⟨rfl, rfl⟩
end Go.Proofs.YtbngfphiachnoaaGreatDoor.Ch
end

section
namespace Go.Proofs.YtbngfphiachnoaaGreatDoor.Ch
open Go.RowKit Go.PlainAid
open Hx Fi
set_option linter.unusedVariables false
set_option maxRecDepth 20000
set_option linter.unusedSimpArgs false

/-! ### what a text's runes are -/
theorem get_bang (s : ByteArray) (k : Nat) (h : k < s.size) : (s.get! k).toNat = (bt s k).toNat := by
  have e : s.get! k = s[k] := by
    simp [ByteArray.get!, getElem!_pos, h]
    rfl
  rw [bt_get s k h, e]; rfl
/-- a rune that begins with no letter is none, nor is one of its bytes -/
structure Far (s : ByteArray) (k r n : Nat) : Prop where
  hr : 128 ≤ r
  hv : Utf8.valid (r : Int) = true
  hn : 1 ≤ n
  le : k + n ≤ s.size
  all : ∀ j, k ≤ j → j < k + n → 128 ≤ bt s j
theorem two_valid {a b : Nat} : Utf8.valid (((a % 32) * 64 + b % 64 : Nat) : Int) = true := by
  have a1 : a % 32 < 32 := Nat.mod_lt _ (by decide)
  have a2 : b % 64 < 64 := Nat.mod_lt _ (by decide)
  generalize a % 32 = x at *
  generalize b % 64 = y at *
  unfold Utf8.valid
  simp only [Bool.or_eq_true, Bool.and_eq_true, decide_eq_true_eq]
  left; omega
theorem decode_far (s : ByteArray) (k : Nat) (h : k < s.size) (h1 : 128 ≤ bt s k) : Far s k (Utf8.decode s k).1 (Utf8.decode s k).2 := by
  have hb0 : (s.get! k).toNat = (bt s k).toNat := get_bang s k h
  have hle : bt s k ≤ 255 := bt_le s k
  have one : Far s k Utf8.runeError 1 := ⟨by decide +kernel, by decide +kernel, Nat.le_refl _, by omega, fun j h2 h3 => by rw [show j = k by omega]; exact h1⟩
  have cont : ∀ d, (decide (k + d < s.size) && (s.get! (k + d)).toNat / 64 == 2) = true → k + d < s.size ∧ 128 ≤ bt s (k + d) := by
    intro d hd
    simp only [Bool.and_eq_true, decide_eq_true_eq, beq_iff_eq] at hd
    have := get_bang s (k + d) hd.1
    have h0 := bt_nonneg s (k + d)
    refine ⟨hd.1, ?_⟩
    rw [this] at hd
    omega
  have c1 := cont 1
  have c2 := cont 2
  have c3 := cont 3
  have hn : ¬ (bt s k).toNat < 128 := by omega
  clear cont
  unfold Utf8.decode
  simp only [Nat.add_zero, hb0]
  generalize (decide (k + 1 < s.size) && (s.get! (k + 1)).toNat / 64 == 2) = q1 at *
  generalize (decide (k + 2 < s.size) && (s.get! (k + 2)).toNat / 64 == 2) = q2 at *
  generalize (decide (k + 3 < s.size) && (s.get! (k + 3)).toNat / 64 == 2) = q3 at *
  generalize (s.get! (k + 1)).toNat = x1 at *
  generalize (s.get! (k + 2)).toNat = x2 at *
  generalize (s.get! (k + 3)).toNat = x3 at *
  generalize (bt s k).toNat = x0 at *
  rw [if_neg hn]
  by_cases t1 : (x0 / 32 == 6 && q1) = true
  · rw [if_pos t1]
    simp only [Bool.and_eq_true] at t1
    have d1 := c1 t1.2
    by_cases t2 : x0 % 32 * 64 + x1 % 64 ≥ 128
    · rw [if_pos t2]
      refine ⟨t2, two_valid, by show 1 ≤ 2; decide, by show k + 2 ≤ s.size; omega, fun j h2 h3 => ?_⟩
      rcases (show j = k ∨ j = k + 1 by omega) with rfl | rfl
      · exact h1
      · exact d1.2
    · rw [if_neg t2]; exact one
  · rw [if_neg t1]
    by_cases t2 : (x0 / 16 == 14 && q1 && q2) = true
    · rw [if_pos t2]
      simp only [Bool.and_eq_true] at t2
      have d1 := c1 t2.1.2
      have d2 := c2 t2.2
      generalize x0 % 16 * 4096 + x1 % 64 * 64 + x2 % 64 = y
      by_cases t3 : (decide (y ≥ 2048) && Utf8.valid (y : Int)) = true
      · rw [if_pos t3]
        simp only [Bool.and_eq_true, decide_eq_true_eq] at t3
        refine ⟨by show 128 ≤ y; omega, t3.2, by show 1 ≤ 3; decide, by show k + 3 ≤ s.size; omega, fun j h2 h3 => ?_⟩
        rcases (show j = k ∨ j = k + 1 ∨ j = k + 2 by omega) with rfl | rfl | rfl
        · exact h1
        · exact d1.2
        · exact d2.2
      · rw [if_neg t3]; exact one
    · rw [if_neg t2]
      by_cases t3 : (x0 / 8 == 30 && q1 && q2 && q3) = true
      · rw [if_pos t3]
        simp only [Bool.and_eq_true] at t3
        have d1 := c1 t3.1.1.2
        have d2 := c2 t3.1.2
        have d3 := c3 t3.2
        generalize x0 % 8 * 262144 + x1 % 64 * 4096 + x2 % 64 * 64 + x3 % 64 = y
        by_cases t4 : (decide (y ≥ 65536) && Utf8.valid (y : Int)) = true
        · rw [if_pos t4]
          simp only [Bool.and_eq_true, decide_eq_true_eq] at t4
          refine ⟨by show 128 ≤ y; omega, t4.2, by show 1 ≤ 4; decide, by show k + 4 ≤ s.size; omega, fun j h2 h3 => ?_⟩
          rcases (show j = k ∨ j = k + 1 ∨ j = k + 2 ∨ j = k + 3 by omega) with rfl | rfl | rfl | rfl
          · exact h1
          · exact d1.2
          · exact d2.2
          · exact d3.2
        · rw [if_neg t4]; exact one
      · rw [if_neg t3]; exact one
theorem decode_near (s : ByteArray) (k : Nat) (h : k < s.size) (h1 : bt s k < 128) : Utf8.decode s k = ((bt s k).toNat, 1) := by
  have e := bt_get s k h
  have := decode_ascii s k h (by omega)
  rw [this, e]; rfl
/-! ### a walk over a text's runes -/
def stepIt (w : World) (g : Nat) (s : ByteArray) (k : Nat) : World := { w with heap := w.heap.setIfInBounds g (.stringIter s k) }
section
variable {P : Program} {w : World} {g : Nat} {s : ByteArray} {k : Nat}
theorem run_next_rune (hg : w.heap[g]? = some (.stringIter s k)) (h : k < s.size) {r n : Nat} (hd : Utf8.decode s k = (r, n)) (ty : TypeId) :
    (Instr.next (.pointer (some ⟨g, 0, none⟩)) true ty).run P w = .ok (.tuple #[.bool true, .int .i64 (k : Int), .int .i32 (r : Int)]) (stepIt w g s (k + n)) := by
  simp only [Instr.next, getObj, setObj, Sem.run_bind, Sem.run, hg, Result.andThen, h, if_true, hd]
  simp [goInt, Sem.run, stepIt]
theorem run_next_over (hg : w.heap[g]? = some (.stringIter s k)) (h : ¬ k < s.size) (ty : TypeId) :
    (Instr.next (.pointer (some ⟨g, 0, none⟩)) true ty).run P w = .ok (.tuple #[.bool false]) w := by
  simp [Instr.next, getObj, Sem.run, hg, h]
theorem stepIt_at (hg : w.heap[g]? = some (.stringIter s k)) (j : Nat) : (stepIt w g s j).heap[g]? = some (.stringIter s j) := by
  have := (Array.getElem?_eq_some_iff.1 hg).1
  simp [stepIt, this]
theorem stepIt_below {N : Nat} {w0 : World} (h : Below N w0 w) (hN : N ≤ g) (j : Nat) : Below N w0 (stepIt w g s j) :=
  h.trans ⟨rfl, rfl, rfl, by simp [stepIt], fun k hk => by simp [stepIt, Array.getElem?_setIfInBounds]; intro e; omega⟩
theorem stepIt_other {B T : Nat} {cs : Array Value} (h : At w B T cs) (hg : w.heap[g]? = some (.stringIter s k)) (j : Nat) : At (stepIt w g s j) B T cs := by
  refine h.same ?_
  have hne : g ≠ B := fun e => by
    have := h.heap
    rw [← e, hg] at this
    cases this
  simp [stepIt, Array.getElem?_setIfInBounds, hne]
end
/-- the three letters -/
def sepS : ByteArray := ⟨#[32, 9, 59]⟩
def sepL : List UInt8 := [32, 9, 59]
def sepN (c : Int) : Bool := c == 32 || c == 9 || c == 59
theorem sep_is (c : UInt8) : sepL.contains c = sepN (c.toNat : Int) := by
  have : ∀ m : Fin 256, sepL.contains (UInt8.ofNat m.val) = sepN (m.val : Int) := by decide +kernel
  have h := this ⟨c.toNat, c.toNat_lt⟩
  simp only at h
  rwa [UInt8.ofNat_toNat] at h
theorem sep_far {c : Int} (h : 128 ≤ c) : sepN c = false := by
  have a : ¬ c = 32 := by omega
  have b : ¬ c = 9 := by omega
  have d : ¬ c = 59 := by omega
  simp [sepN, a, b, d]
theorem first_sep : ∀ c : Fin 128, decide (0 ≤ firstIdx ⟨#[32, 9, 59]⟩ ((c.val : Int)).toNat.toUInt8) = sepN (c.val : Int) := by decide +kernel
theorem first_far (l : List UInt8) (h : ∀ b ∈ l, b.toNat < 128) (c : UInt8) (hc : 128 ≤ c.toNat) : firstIdx ⟨l.toArray⟩ c = -1 := by
  unfold firstIdx
  have e : (List.range (⟨l.toArray⟩ : ByteArray).size).find? (fun i => (⟨l.toArray⟩ : ByteArray)[i]! == c) = none := by
    rw [List.find?_eq_none]
    intro i hi
    have hi' : i < (⟨l.toArray⟩ : ByteArray).size := by simpa using hi
    rw [getElem!_pos _ i hi']
    simp only [beq_iff_eq]
    intro e
    have hm : (⟨l.toArray⟩ : ByteArray)[i] ∈ l := by
      show l.toArray[i]'_ ∈ l
      simp
    have := h _ hm
    rw [e] at this
    omega
  rw [e]
/-! ### a rune among the three letters -/
set_option maxHeartbeats 1000000 in
theorem rune_near (c : Int) (w : World) (h0 : 0 ≤ c) (h1 : c < 128) :
    Calls Tryz.prog 126 #[.string ⟨#[32, 9, 59]⟩, .int .i32 c] w fun e w' => ∃ v : Int, e = .returned (.int .i64 v) ∧ decide (0 ≤ v) = sepN c ∧ Below w.heap.size w w' := by
  have r := fun w => indexByte_any ⟨#[32, 9, 59]⟩ c w
  have hv := first_sep ⟨c.toNat, by omega⟩
  simp only at hv
  rw [show ((c.toNat : Nat) : Int) = c by omega] at hv
  have HV := Lib.hid hv
  clear hv
  generalize firstIdx ⟨#[32, 9, 59]⟩ c.toNat.toUInt8 = z at *
  go_enter Tryz.func126, Tryz.ntmps126
  go_wp2_with fail
  refine (r _).mono ?_
  rintro e w' ⟨rfl, rfl⟩
  clear r
  go_wp2
  go_ret
  exact ⟨z, rfl, HV.out, Below.refl _ _⟩
set_option maxHeartbeats 4000000 in
theorem rune_error (w : World) :
    Calls Tryz.prog 126 #[.string ⟨#[32, 9, 59]⟩, .int .i32 65533] w fun e w' => e = .returned (.int .i64 (-1)) ∧ Below w.heap.size w w' := by
  have B0 : Below w.heap.size w (w.iter ⟨#[32, 9, 59]⟩ 0) := (Below.refl _ _).alloc (Nat.le_refl _) _
  have H0 := World.iter_heap w ⟨#[32, 9, 59]⟩ 0
  go_enter Tryz.func126, Tryz.ntmps126
  go_wp2
  generalize w.iter ⟨#[32, 9, 59]⟩ 0 = w0 at B0 H0 ⊢
  go_loopg [5, 6] 3 (fun g _ _ wr => ∃ k : Nat, k + g = 3 ∧ wr.heap[w.heap.size]? = some (.stringIter ⟨#[32, 9, 59]⟩ k) ∧ Below w.heap.size w wr)
  case atStart => exact ⟨0, by omega, H0, B0⟩
  case round =>
    clear H0 B0
    obtain ⟨k, hk, hh, hb⟩ := hrel
    cases gk with
    | zero =>
      obtain rfl : k = 3 := by omega
      have nx := fun ty => run_next_over (P := Tryz.prog) hh (by decide) ty
      go_wp2
      go_ret
      exact ⟨rfl, hb⟩
    | succ g =>
      have hd : ∃ r : Nat, Utf8.decode ⟨#[32, 9, 59]⟩ k = (r, 1) ∧ ((r : Int) == 65533) = false := by
        rcases (show k = 0 ∨ k = 1 ∨ k = 2 by omega) with rfl | rfl | rfl
        · exact ⟨32, by decide, by decide⟩
        · exact ⟨9, by decide, by decide⟩
        · exact ⟨59, by decide, by decide⟩
      obtain ⟨r, hd, hr⟩ := hd
      have nx := fun ty => run_next_rune (P := Tryz.prog) hh (by show k < 3; omega) hd ty
      have H2 := stepIt_at hh (k + 1)
      have B2 := stepIt_below hb (Nat.le_refl _) (s := ⟨#[32, 9, 59]⟩) (k + 1)
      clear hh hb hd
      generalize stepIt wr w.heap.size ⟨#[32, 9, 59]⟩ (k + 1) = w2 at *
      go_wp2
      go_roundg g
      case measure => omega
      case rel => exact ⟨k + 1, by omega, H2, B2⟩
theorem valid_yes (r : Int) (w : World) (h : Utf8.valid r = true) :
    Calls Tryz.prog 134 #[.int .i32 r] w fun e w' => e = .returned (.bool true) ∧ w = w' := by
  unfold Utf8.valid at h
  simp only [Bool.or_eq_true, Bool.and_eq_true, decide_eq_true_eq] at h
  rcases h with ⟨h1, h2⟩ | ⟨h1, h2⟩
  · go_enter Tryz.func134, Tryz.ntmps134
    go_wp2
    all_goals go_ret
    all_goals exact ⟨rfl, rfl⟩
  · have h3 : (0 : Int) ≤ r := by omega
    have h4 : ¬ r < 55296 := by omega
    have h5 : (57343 : Int) < r := by omega
    go_enter Tryz.func134, Tryz.ntmps134
    go_wp2
    all_goals go_ret
    all_goals exact ⟨rfl, rfl⟩
set_option maxHeartbeats 4000000 in
theorem rune_far (r : Int) (w : World) (h1 : 128 ≤ r) (h2 : Utf8.valid r = true) (h3 : r ≠ 65533) :
    Calls Tryz.prog 126 #[.string ⟨#[32, 9, 59]⟩, .int .i32 r] w fun e w' => e = .returned (.int .i64 (-1)) ∧ Below w.heap.size w w' := by
  have vy := fun w => valid_yes r w h2
  obtain ⟨e1, e2, e3⟩ := encode_facts r h2 h1
  have hr : r ≤ 1114111 := by
    unfold Utf8.valid at h2
    simp only [Bool.or_eq_true, Bool.and_eq_true, decide_eq_true_eq] at h2
    omega
  have ne : (r == 65533) = false := beq_eq_false_iff_ne.2 h3
  obtain ⟨t, ht⟩ : ∃ t, Utf8.encode r = t := ⟨_, rfl⟩
  rw [ht] at e1 e2 e3
  obtain ⟨m, hm⟩ : ∃ m, t.size = m + 1 := ⟨t.size - 1, by omega⟩
  have hb := get_bt t
  have e4 : 128 ≤ bt t m := by
    rw [bt_get t m (by omega)]
    have := e3 (by omega)
    simp only [hm, Nat.add_sub_cancel] at this
    omega
  have b1 := bt_le t m
  have F1 : firstIdx ⟨#[59]⟩ (bt t m).toNat.toUInt8 = -1 := first_far [59] (by decide) _ (by rw [UInt8.toNat_ofNat']; omega)
  have F2 : firstIdx ⟨#[]⟩ (bt t m).toNat.toUInt8 = -1 := first_far [] (by decide) _ (by rw [UInt8.toNat_ofNat']; omega)
  have r1 : ∀ w, Calls Tryz.prog 88 #[.string ⟨#[59]⟩, .int .u8 (bt t m)] w fun e w' => e = .returned (.int .i64 (-1)) ∧ w' = w := fun w => by
    have := indexByte_any ⟨#[59]⟩ (bt t m) w
    rw [F1] at this
    exact this.mono fun _ _ ⟨h, g⟩ => ⟨h, g.symm⟩
  have r2 : ∀ w, Calls Tryz.prog 88 #[.string ⟨#[]⟩, .int .u8 (bt t m)] w fun e w' => e = .returned (.int .i64 (-1)) ∧ w' = w := fun w => by
    have := indexByte_any ⟨#[]⟩ (bt t m) w
    rw [F2] at this
    exact this.mono fun _ _ ⟨h, g⟩ => ⟨h, g.symm⟩
  have g9 : (9 != bt t m) = true := by rw [bne_iff_ne]; omega
  have g59 : (59 != bt t m) = true := by rw [bne_iff_ne]; omega
  have cv : ∀ w, (convert 21 9 (.int .i32 r)).run Tryz.prog w = .ok (.string t) w := fun w => by
    rw [run_convert_int_string w 21 9 .i32 r (by kernel_rfl) Tryz.underlying9, ht]
  clear F1 F2 e3 h2 h3 ht
  rcases (show m = 1 ∨ m = 2 ∨ m = 3 by omega) with rfl | rfl | rfl
  · have hs : (t.size : Int) - 1 = 1 := by omega
    have ht2 : (1 : Int) < (t.size : Int) := by omega
    have ht3 : 1 < t.size := by omega
    have c1 : ∀ h, ((⟨#[32, 9, 59]⟩ : ByteArray)[1]'h).toNat = 9 := fun _ => rfl
    have q2 : IntKind.i64.wrap 2 = 2 := by decide +kernel
    have x2 : (⟨#[32, 9, 59]⟩ : ByteArray).extract 2 3 = ⟨#[59]⟩ := by decide +kernel
    clear hm e1 e2
    go_enter Tryz.func126, Tryz.ntmps126
    go_wp2_with fail
    refine (vy _).mono ?_
    rintro e w' ⟨rfl, rfl⟩
    clear vy
    go_wp2
    go_step3
    go_wp2
    go_loop [9, 10] (fun a b => a = .int .i64 1 ∧ b = .int .i64 0) (fun _ _ => 0)
    case atStart => exact ⟨rfl, rfl⟩
    case round =>
      obtain ⟨rfl, rfl⟩ := hrel
      go_wp2_with fail
      go_step3
      go_wp2_with fail
      go_quiet (fail)
      have BQ : Below w.heap.size w (w.drewN nq) := ⟨rfl, rfl, rfl, Nat.le_refl _, fun _ _ => rfl⟩
      generalize w.drewN nq = wq at *
      go_wp2_with fail
      go_quiet ((go_at_call 88; exact Calls.quiet_of_same (r1 _)))
      go_wp2
      simp +zetaDelta only [Exit.inBlock, Exit.then, Exit.noGoto]
      go_ret
      exact ⟨rfl, BQ.trans ⟨rfl, rfl, rfl, Nat.le_refl _, fun _ _ => rfl⟩⟩
  · have hs : (t.size : Int) - 1 = 2 := by omega
    have ht2 : (2 : Int) < (t.size : Int) := by omega
    have ht3 : 2 < t.size := by omega
    have c1 : ∀ h, ((⟨#[32, 9, 59]⟩ : ByteArray)[2]'h).toNat = 59 := fun _ => rfl
    have q2 : IntKind.i64.wrap 3 = 3 := by decide +kernel
    have x2 : (⟨#[32, 9, 59]⟩ : ByteArray).extract 3 3 = ⟨#[]⟩ := by decide +kernel
    clear hm e1 e2
    go_enter Tryz.func126, Tryz.ntmps126
    go_wp2_with fail
    refine (vy _).mono ?_
    rintro e w' ⟨rfl, rfl⟩
    clear vy
    go_wp2
    go_step3
    go_wp2
    go_loop [9, 10] (fun a b => a = .int .i64 2 ∧ b = .int .i64 0) (fun _ _ => 0)
    case atStart => exact ⟨rfl, rfl⟩
    case round =>
      obtain ⟨rfl, rfl⟩ := hrel
      go_wp2_with fail
      go_step3
      go_wp2_with fail
      go_quiet (fail)
      have BQ : Below w.heap.size w (w.drewN nq) := ⟨rfl, rfl, rfl, Nat.le_refl _, fun _ _ => rfl⟩
      generalize w.drewN nq = wq at *
      go_wp2_with fail
      go_quiet ((go_at_call 88; exact Calls.quiet_of_same (r2 _)))
      go_wp2
      simp +zetaDelta only [Exit.inBlock, Exit.then, Exit.noGoto]
      go_ret
      exact ⟨rfl, BQ.trans ⟨rfl, rfl, rfl, Nat.le_refl _, fun _ _ => rfl⟩⟩
  · have hs : (t.size : Int) - 1 = 3 := by omega
    clear hm e1 e2
    go_enter Tryz.func126, Tryz.ntmps126
    go_wp2_with fail
    refine (vy _).mono ?_
    rintro e w' ⟨rfl, rfl⟩
    clear vy
    go_wp2
    go_step3
    go_wp2
    go_loop [9, 10] (fun a b => a = .int .i64 3 ∧ b = .int .i64 0) (fun _ _ => 0)
    case atStart => exact ⟨rfl, rfl⟩
    case round =>
      obtain ⟨rfl, rfl⟩ := hrel
      go_wp2_with fail
      repeat (rw [Exit.noGoto_ret])
      go_ret
      exact ⟨rfl, Below.refl _ _⟩
end Go.Proofs.YtbngfphiachnoaaGreatDoor.Ch
end

section
namespace Go.Proofs.YtbngfphiachnoaaGreatDoor.Ch
open Go.RowKit Go.PlainAid
open Hx Fi
set_option linter.unusedVariables false
set_option maxRecDepth 20000
set_option linter.unusedSimpArgs false

def setS : Array Value := Lib.setCells [32, 9, 59]
theorem setS_size : setS.size = 256 := Lib.setCells_size _
theorem setS_one : ∀ v ∈ setS.toList, v.oneCell' = true := by
  have := Lib.setCells_one [32, 9, 59]
  rw [Array.all_eq_true_iff_forall_mem] at this
  intro v hv
  exact this v (Array.mem_toList_iff.1 hv)
theorem set_cell {w : World} {B : Nat} (h : At w B 118 setS) (n : Nat) (hn : n < 256) : w.cell? ⟨B, n, none⟩ = some (.bool (sepN (n : Int))) := by
  rw [h.cell]
  have := Lib.setCells_at [32, 9, 59] (UInt8.ofNat n)
  have e : (UInt8.ofNat n).toNat = n := by rw [UInt8.toNat_ofNat']; omega
  rw [show ([32, 9, 59] : List UInt8) = sepL from rfl, sep_is, e] at this
  exact this
theorem contains_any {w : World} {B : Nat} (h : At w B 118 setS) (c : Int) (h0 : 0 ≤ c) (h1 : c ≤ 255) :
    Calls Tryz.prog 111 #[.pointer (some ⟨B, 0, none⟩), .int .u8 c] w fun e w' => e = .returned (.bool (sepN c)) ∧ w = w' := by
  obtain ⟨n, rfl⟩ := Int.eq_ofNat_of_zero_le h0
  have hc := set_cell h n (by omega)
  have hn : n < 256 := by omega
  have hn2 : (n : Int) < 256 := by omega
  generalize sepN (n : Int) = b at *
  clear h h1 h0
  go_enter Tryz.func111, Tryz.ntmps111
  go_wp2
  go_ret
  exact ⟨rfl, rfl⟩
set_option maxRecDepth 100000 in
theorem zero_set : Tryz.zeroCells118 = Lib.setCells [] := by kernel_rfl
theorem set_loads {w : World} {B : Nat} {l : List UInt8} (h : At w B 118 (Lib.setCells l)) : Loads Tryz.prog w 118 ⟨B, 0, none⟩ (Lib.setCells l) :=
  h.loads (by kernel_rfl) (by rw [Lib.setCells_size]; kernel_rfl)
theorem set_stores {w : World} {B : Nat} {l m : List UInt8} (h : At w B 118 (Lib.setCells m)) : Stores Tryz.prog w 118 B 0 (Lib.setCells l) (w.setRow B (Lib.setCells l)) :=
  h.stores (by rw [Lib.setCells_size]; kernel_rfl) (by rw [Lib.setCells_size, Lib.setCells_size]) (by
    have := Lib.setCells_one l
    rw [Array.all_eq_true_iff_forall_mem] at this
    intro v hv
    exact this v (Array.mem_toList_iff.1 hv))
set_option maxRecDepth 100000 in
set_option maxHeartbeats 2000000 in
theorem makeSet_any (w : World) :
    Calls Tryz.prog 92 #[.string ⟨#[32, 9, 59]⟩] w fun e w' => e = .returned (.tuple #[.agg setS, .bool true]) ∧ Below w.heap.size w w' := by
  have A0 := At.new w 118 Tryz.zeroCells118
  have F0 : Below w.heap.size w (w.alloc (.cells Tryz.zeroCells118 118)) := (Below.refl _ _).alloc (Nat.le_refl _) _
  go_enter Tryz.func92, Tryz.ntmps92
  go_wp2
  generalize w.alloc (.cells Tryz.zeroCells118 118) = w0 at A0 F0 ⊢
  rw [zero_set] at A0
  go_loopw [4] (fun i wr => ∃ k : Nat, k ≤ 3 ∧ i = .int .i64 k ∧ At wr w.heap.size 118 (Lib.setCells ([32, 9, 59].take k)) ∧ Below w.heap.size w wr) (fun i _ => 3 - (intOf i).toNat)
  case atStart => exact ⟨0, Nat.zero_le _, rfl, A0, F0⟩
  case round =>
    clear A0 F0
    obtain ⟨k, hk, rfl, A1, F1⟩ := hrel
    have g0 : ∀ h, ((⟨#[32, 9, 59]⟩ : ByteArray)[0]'h).toNat = 32 := fun _ => rfl
    have g1 : ∀ h, ((⟨#[32, 9, 59]⟩ : ByteArray)[1]'h).toNat = 9 := fun _ => rfl
    have g2 : ∀ h, ((⟨#[32, 9, 59]⟩ : ByteArray)[2]'h).toNat = 59 := fun _ => rfl
    have hk3 : k = 0 ∨ k = 1 ∨ k = 2 ∨ k = 3 := by omega
    rcases hk3 with rfl | rfl | rfl | rfl
    · have c1 : wr.cell? ⟨w.heap.size, 32, none⟩ = some (.bool false) := by
        rw [A1.cell]; have := Lib.setCells_at [] 32; exact this
      have f1 := A1.frozen 32
      have A2 := A1.set 32 (.bool true)
      rw [show (Lib.setCells ([32, 9, 59].take 0)).setIfInBounds 32 (.bool true) = Lib.setCells ([32, 9, 59].take 1) from (Lib.setCells_snoc [] 32).symm] at A2
      have F2 := below_set F1 32 (.bool true)
      go_wp2
      go_roundw
      case rel => exact ⟨1, by omega, rfl, A2, F2⟩
      case measure => decide
    · have c1 : wr.cell? ⟨w.heap.size, 9, none⟩ = some (.bool false) := by
        rw [A1.cell]; have := Lib.setCells_at [32] 9; exact this
      have f1 := A1.frozen 9
      have A2 := A1.set 9 (.bool true)
      rw [show (Lib.setCells ([32, 9, 59].take 1)).setIfInBounds 9 (.bool true) = Lib.setCells ([32, 9, 59].take 2) from (Lib.setCells_snoc [32] 9).symm] at A2
      have F2 := below_set F1 9 (.bool true)
      go_wp2
      go_roundw
      case rel => exact ⟨2, by omega, rfl, A2, F2⟩
      case measure => decide
    · have c1 : wr.cell? ⟨w.heap.size, 59, none⟩ = some (.bool false) := by
        rw [A1.cell]; have := Lib.setCells_at [32, 9] 59; exact this
      have f1 := A1.frozen 59
      have A2 := A1.set 59 (.bool true)
      rw [show (Lib.setCells ([32, 9, 59].take 2)).setIfInBounds 59 (.bool true) = Lib.setCells ([32, 9, 59].take 3) from (Lib.setCells_snoc [32, 9] 59).symm] at A2
      have F2 := below_set F1 59 (.bool true)
      go_wp2
      go_roundw
      case rel => exact ⟨3, by omega, rfl, A2, F2⟩
      case measure => decide
    · have L1 := set_loads A1
      have S1 := set_stores (l := [32, 9, 59].take 3) A1
      have A2 := A1.row (Lib.setCells ([32, 9, 59].take 3))
      have F2 : Below w.heap.size w (wr.setRow w.heap.size (Lib.setCells ([32, 9, 59].take 3))) := below_row F1 (Nat.le_refl _)
      generalize wr.setRow w.heap.size (Lib.setCells ([32, 9, 59].take 3)) = w2 at S1 A2 F2
      go_wp2_with (first | refine wpl_load L1 rfl rfl rfl ?_ | refine wpl_store S1 rfl rfl rfl rfl rfl ?_)
      exact bodyPost_ret (Fi.results_cell_tmp Tryz.results92 _ rfl rfl (set_loads A2)) rfl ⟨rfl, F2⟩

/-! ### the first of the letters -/
def anyI (l : List UInt8) : Int := Lib.indexAny l sepL
theorem use_any (n : Int) (w : World) : Calls Tryz.prog 132 #[.int .i64 n] w fun e w' => e = .returned (.bool (decide (8 < n))) ∧ w = w' := by
  go_enter Tryz.func132, Tryz.ntmps132
  go_wp2
  go_ret
  exact ⟨rfl, rfl⟩
theorem keep_set (w : World) : ∃ X, Stores Tryz.prog (w.alloc (.cells Tryz.zeroCells118 118)) 118 w.heap.size 0 setS X ∧ At X w.heap.size 118 setS ∧ Below w.heap.size w X ∧ X.heap.size = w.heap.size + 1 :=
  keep w _ setS 118 (by rw [setS_size]; kernel_rfl) (by rw [setS_size, zero_set, Lib.setCells_size]) setS_one
set_option maxHeartbeats 4000000 in
set_option maxRecDepth 100000 in
theorem indexAny_long (s : ByteArray) (w : World) (h8 : 8 < s.size) (hs : s.size ≤ 1099511627776) :
    Calls Tryz.prog 120 #[.string s, .string ⟨#[32, 9, 59]⟩] w fun e w' => e = .returned (.int .i64 (anyI (ls s))) ∧ Below w.heap.size w w' := by
  have u := fun w => use_any (s.size : Int) w
  rw [decide_eq_true (show (8 : Int) < (s.size : Int) by omega)] at u
  have hg := get_bt s
  go_enter Tryz.func120, Tryz.ntmps120
  go_wp2_with fail
  refine (u _).mono ?_
  rintro e w' ⟨rfl, rfl⟩
  clear u
  go_wp2_with fail
  refine (makeSet_any _).mono ?_
  rintro e w1 ⟨rfl, B1⟩
  obtain ⟨X, S, A, B2, _⟩ := keep_set w1
  have B3 := B1.trans (B2.mono B1.size)
  clear B1 B2
  go_wp2_with (refine wpl_store S rfl rfl rfl rfl rfl ?_)
  clear S
  have hp := B3.size
  have A' := Lib.hid A
  clear A
  generalize w1.heap.size = B at *
  go_loopg [8] s.size (fun g s8 wx => ∃ i : Nat, i + g = s.size ∧ s8 = .int .i64 i ∧ wx = X ∧ Lib.NoAny (ls s) sepL i)
  case atStart => exact ⟨0, by omega, rfl, rfl, Lib.NoAny.zero _ _⟩
  case round =>
    obtain ⟨i, hig, rfl, rfl, hno⟩ := hrel
    have HN := Lib.hid hno
    clear hno
    cases gk with
    | zero =>
      obtain rfl : i = s.size := by omega
      have hiz : ¬ ((s.size : Int) < (s.size : Int)) := by omega
      go_wp2
      go_ret
      exact ⟨by rw [anyI, Lib.indexAny_none (by rw [ls_len]; exact HN.out)]; rfl, B3⟩
    | succ g =>
      have hi : i < s.size := by omega
      have hiz : (i : Int) < (s.size : Int) := by omega
      obtain ⟨x, gx, ex, _, _, _⟩ := get_ls hi
      have b0 := bt_nonneg s i
      have b1 := bt_le s i
      have co := fun w => fun h => contains_any (w := w) (B := B) h (bt s i) b0 b1
      have co2 := co _ A'.out
      clear co
      have HX := Lib.hid gx
      have hq := sep_is x
      rw [← ex] at hq
      clear gx ex
      cases hw : sepN (bt s i) with
      | true =>
        rw [hw] at hq co2
        have HQ := Lib.hid hq
        clear hq hw
        go_wp2_with fail
        refine co2.mono ?_
        rintro e w' ⟨rfl, rfl⟩
        clear co2
        go_wp2
        go_ret
        exact ⟨by rw [anyI, Lib.indexAny_hit HN.out HX.out HQ.out]; rfl, B3⟩
      | false =>
        rw [hw] at hq co2
        have HQ := Lib.hid hq
        clear hq hw
        go_wp2_with fail
        refine co2.mono ?_
        rintro e w' ⟨rfl, rfl⟩
        clear co2
        go_wp2
        go_roundg g
        case measure => omega
        case rel => exact ⟨i + 1, by omega, by go_num, rfl, HN.out.succ HX.out HQ.out⟩
set_option maxHeartbeats 4000000 in
theorem indexAny_short (s : ByteArray) (w : World) (h8 : s.size ≤ 8) :
    Calls Tryz.prog 120 #[.string s, .string ⟨#[32, 9, 59]⟩] w fun e w' => e = .returned (.int .i64 (anyI (ls s))) ∧ Below w.heap.size w w' := by
  have u := fun w => use_any (s.size : Int) w
  rw [decide_eq_false (show ¬ (8 : Int) < (s.size : Int) by omega)] at u
  have B0 : Below w.heap.size w (w.iter s 0) := (Below.refl _ _).alloc (Nat.le_refl _) _
  have H0 := World.iter_heap w s 0
  go_enter Tryz.func120, Tryz.ntmps120
  go_wp2_with fail
  refine (u _).mono ?_
  rintro e w' ⟨rfl, rfl⟩
  clear u
  go_wp2_with fail
  generalize w.iter s 0 = w0 at B0 H0 ⊢
  go_loopg [9, 10] s.size (fun g _ _ wr => ∃ k : Nat, k + g = s.size ∧ wr.heap[w.heap.size]? = some (.stringIter s k) ∧ Below w.heap.size w wr ∧ Lib.NoAny (ls s) sepL k)
  case atStart => exact ⟨0, by omega, H0, B0, Lib.NoAny.zero _ _⟩
  case round =>
    clear H0 B0
    obtain ⟨k, hk, hh, hb, hno⟩ := hrel
    have HN := Lib.hid hno
    clear hno
    cases gk with
    | zero =>
      obtain rfl : k = s.size := by omega
      have nx := fun ty => run_next_over (P := Tryz.prog) hh (Nat.lt_irrefl _) ty
      go_wp2
      go_ret
      exact ⟨by rw [anyI, Lib.indexAny_none (by rw [ls_len]; exact HN.out)]; rfl, hb⟩
    | succ g =>
      have hi : k < s.size := by omega
      obtain ⟨x, gx, ex, _, _, _⟩ := get_ls hi
      have b0 := bt_nonneg s k
      have hlt := (Array.getElem?_eq_some_iff.1 hh).1
      by_cases hc : bt s k < 128
      · have hd := decode_near s k hi hc
        have nx := fun ty => run_next_rune (P := Tryz.prog) hh hi hd ty
        rw [show (((bt s k).toNat : Nat) : Int) = bt s k by omega] at nx
        have H2 := stepIt_at hh (k + 1)
        have B2 := stepIt_below hb (Nat.le_refl _) (s := s) (k + 1)
        have rn := fun w => rune_near (bt s k) w b0 hc
        have hq := sep_is x
        rw [← ex] at hq
        have HX := Lib.hid gx
        have HQ := Lib.hid hq
        clear hd hq gx ex hb
        have hlt2 : w.heap.size < (stepIt wr w.heap.size s (k + 1)).heap.size := by simpa [stepIt] using hlt
        generalize stepIt wr w.heap.size s (k + 1) = w2 at *
        generalize bt s k = c at *
        go_wp2_with fail
        refine (rn _).mono ?_
        rintro e w3 ⟨v, rfl, hv, B3⟩
        clear rn nx hh
        have B4 := B2.trans (B3.mono B2.size)
        have H3 : w3.heap[w.heap.size]? = some (.stringIter s (k + 1)) := by rw [B3.block _ hlt2]; exact H2
        cases hw : sepN c with
        | true =>
          rw [hw] at hv
          have HQ2 := HQ.out
          rw [hw] at HQ2
          have HQ3 := Lib.hid HQ2
          have hv2 : (0 : Int) ≤ v := of_decide_eq_true hv
          clear HQ2 hw hv
          go_wp2
          go_ret
          exact ⟨by rw [anyI, Lib.indexAny_hit HN.out HX.out HQ3.out]; rfl, B4⟩
        | false =>
          rw [hw] at hv
          have HQ2 := HQ.out
          rw [hw] at HQ2
          have HQ3 := Lib.hid HQ2
          have hv2 : ¬ (0 : Int) ≤ v := of_decide_eq_false hv
          clear HQ2 hw hv
          go_wp2
          go_roundg g
          case measure => omega
          case rel => exact ⟨k + 1, by omega, H3, B4, HN.out.succ HX.out HQ3.out⟩
      · have hf := decode_far s k hi (by omega)
        obtain ⟨r, n, hd⟩ : ∃ r n, Utf8.decode s k = (r, n) := ⟨_, _, rfl⟩
        rw [hd] at hf
        obtain ⟨hr, hv, hn, hle, hall⟩ := hf
        simp only at hr hv hn hle hall
        have nx := fun ty => run_next_rune (P := Tryz.prog) hh hi hd ty
        have H2 := stepIt_at hh (k + n)
        have B2 := stepIt_below hb (Nat.le_refl _) (s := s) (k + n)
        have hlt2 : w.heap.size < (stepIt wr w.heap.size s (k + n)).heap.size := by simpa [stepIt] using hlt
        have rn : ∀ w, Calls Tryz.prog 126 #[.string ⟨#[32, 9, 59]⟩, .int .i32 (r : Int)] w fun e w' => e = .returned (.int .i64 (-1)) ∧ Below w.heap.size w w' := fun w => by
          by_cases e : r = 65533
          · subst e; exact rune_error w
          · exact rune_far (r : Int) w (by omega) hv (by omega)
        have HN2 : Hid (Lib.NoAny (ls s) sepL (k + n)) := Lib.hid (by
          intro j b hj hb
          by_cases c : j < k
          · exact HN.out j b c hb
          · have hj2 : j < s.size := by omega
            have h128 := hall j (by omega) (by omega)
            obtain ⟨y, gy, ey, _, _, _⟩ := get_ls hj2
            rw [hb] at gy
            obtain rfl : b = y := Option.some.inj gy
            rw [sep_is, ← ey]
            exact sep_far h128)
        clear hd gx ex hb hall hv hc b0
        generalize stepIt wr w.heap.size s (k + n) = w2 at *
        go_wp2_with fail
        refine (rn _).mono ?_
        rintro e w3 ⟨rfl, B3⟩
        clear rn nx hh
        have B4 := B2.trans (B3.mono B2.size)
        have H3 : w3.heap[w.heap.size]? = some (.stringIter s (k + n)) := by rw [B3.block _ hlt2]; exact H2
        go_wp2
        go_roundg (g + 1 - n)
        case measure => omega
        case rel => exact ⟨k + n, by omega, H3, B4, HN2.out⟩
theorem indexAny_any (s : ByteArray) (w : World) (hs : s.size ≤ 1099511627776) :
    Calls Tryz.prog 120 #[.string s, .string ⟨#[32, 9, 59]⟩] w fun e w' => e = .returned (.int .i64 (anyI (ls s))) ∧ Below w.heap.size w w' := by
  by_cases h : s.size ≤ 8
  · exact indexAny_short s w h
  · exact indexAny_long s w (by omega) hs
end Go.Proofs.YtbngfphiachnoaaGreatDoor.Ch
end

section
namespace Go.Proofs.YtbngfphiachnoaaGreatDoor.Ch
open Go.RowKit Go.PlainAid
open Hx Fi
set_option linter.unusedVariables false
set_option maxRecDepth 20000
set_option linter.unusedSimpArgs false

/-! ### whether there are text bytes alone -/
theorem parse_x (l : List UInt8) : pE (120 :: 58 :: l) = if isTxt l = true then 0 else 3 := by
  have hc : cutB 58 (120 :: 58 :: l) = some ([120], l) := cutB_of (x := [120]) (y := l) (by decide)
  have ht : isTok [120] = true := by decide
  by_cases h : isTxt l = true
  · rw [if_pos h]; exact (p_some (parseF_cut hc ht h)).2
  · rw [if_neg h]; exact (p_none (parseF_cut_bad hc (fun x => h x.2))).2
theorem isText_any (s : ByteArray) (w : World) (hs : s.size ≤ 549755813888) :
    Calls Tryz.prog 122 #[.string s] w fun e w' => e = .returned (.bool (isTxt (ls s))) ∧ Below w.heap.size w w' := by
  have hl : ls (⟨#[120, 58]⟩ ++ s) = 120 :: 58 :: ls s := by rw [ls_append]; rfl
  have hz : (⟨#[120, 58]⟩ ++ s : ByteArray).size ≤ 1099511627776 := by rw [ByteArray.size_append]; show 2 + s.size ≤ _; omega
  have p := fun w => parse_any (⟨#[120, 58]⟩ ++ s) w hz
  unfold ParsePost at p
  rw [hl] at p
  have q := parse_x (ls s)
  generalize pE (120 :: 58 :: ls s) = v at *
  generalize pF (120 :: 58 :: ls s) = f at *
  have hv : (v == 0) = isTxt (ls s) := by
    rw [q]
    cases isTxt (ls s) <;> rfl
  have HV := Lib.hid hv
  clear hl hz q hv
  go_enter Tryz.func122, Tryz.ntmps122
  go_wp2_with fail
  refine (p _).mono ?_
  rintro e w1 ⟨rfl, G⟩
  clear p
  obtain ⟨X, S, A, B, _⟩ := fd_keep w1 f
  have G2 := G.trans (B.mono G.size)
  clear G A B
  go_wp2_with (refine wpl_store S rfl rfl rfl rfl rfl ?_)
  go_ret
  exact ⟨by rw [← HV.out]; rfl, G2⟩

/-! ### where the number ends -/
def sepB (c : UInt8) : Bool := sepL.contains c
def sepP (l : List UInt8) : List UInt8 := l.takeWhile fun c => !sepB c
def sepR (l : List UInt8) : List UInt8 := l.dropWhile fun c => !sepB c
theorem anyI_cons (c : UInt8) (l : List UInt8) : anyI (c :: l) = if sepB c = true then 0 else if anyI l = -1 then -1 else anyI l + 1 := by
  unfold anyI
  rw [Lib.indexAny]
  change (if sepB c = true then _ else _) = _
  by_cases h : sepB c = true
  · rw [if_pos h, if_pos h]
  · rw [if_neg h, if_neg h]
    by_cases e : Lib.indexAny l sepL = -1
    · rw [if_pos (by rw [e]; rfl), if_pos e]
    · rw [if_neg (by simpa using e), if_neg e]
theorem anyI_cases : ∀ l : List UInt8, (anyI l = -1 ∧ sepP l = l ∧ sepR l = []) ∨ ∃ k c r, anyI l = (k : Nat) ∧ k < l.length ∧ sepP l = l.take k ∧ sepR l = l.drop k ∧ sepR l = c :: r ∧ sepB c = true
  | [] => .inl ⟨rfl, rfl, rfl⟩
  | c :: l => by
    rw [anyI_cons]
    by_cases h : sepB c = true
    · rw [if_pos h]
      exact .inr ⟨0, c, l, rfl, by simp, by simp [sepP, List.takeWhile_cons, h], by simp [sepR, List.dropWhile_cons, h], by simp [sepR, List.dropWhile_cons, h], h⟩
    · rw [if_neg h]
      have h' : sepB c = false := by simpa using h
      have p1 : sepP (c :: l) = c :: sepP l := by simp [sepP, List.takeWhile_cons, h']
      have p2 : sepR (c :: l) = sepR l := by simp [sepR, List.dropWhile_cons, h']
      rcases anyI_cases l with ⟨a, b, d⟩ | ⟨k, x, r, a, b, d, e, f, g⟩
      · rw [if_pos a]; exact .inl ⟨rfl, by rw [p1, b], by rw [p2, d]⟩
      · rw [if_neg (by omega)]
        exact .inr ⟨k + 1, x, r, by omega, by simp; omega, by rw [p1, d]; rfl, by rw [p2, e]; rfl, by rw [p2, f], g⟩
theorem sep_hex (c : UInt8) (h : sepB c = true) : hexB c = false := by
  have : ∀ m : Fin 256, sepB (UInt8.ofNat m.val) = true → hexB (UInt8.ofNat m.val) = false := by decide +kernel
  have h2 := this ⟨c.toNat, c.toNat_lt⟩
  simp only [UInt8.ofNat_toNat] at h2
  exact h2 h
theorem sep_or (c : UInt8) : (c == 32 || c == 9 || c == 59) = sepB c := by
  have : ∀ m : Fin 256, (UInt8.ofNat m.val == 32 || UInt8.ofNat m.val == 9 || UInt8.ofNat m.val == 59) = sepB (UInt8.ofNat m.val) := by decide +kernel
  have h2 := this ⟨c.toNat, c.toNat_lt⟩
  simp only [UInt8.ofNat_toNat] at h2
  exact h2
theorem okR_cons (c : UInt8) (r : List UInt8) : okR (c :: r) = (sepB c && isTxt (c :: r)) := by rw [← sep_or]; rfl
theorem hex_all {l : List UInt8} : AllHex (tx l) (tx l).size ↔ ∀ c ∈ l, hexB c = true := by
  unfold AllHex hexB
  constructor
  · intro h c hc
    obtain ⟨j, hj, rfl⟩ := List.getElem_of_mem hc
    have := h j hj
    rw [bt_get (tx l) j hj] at this
    exact this
  · intro h j hj
    rw [bt_get (tx l) j hj]
    exact h _ (List.getElem_mem hj)
/-- the number of a line as it is read: the digits till a blank, a tab or a semicolon -/
theorem numF_is (t : List UInt8) (m : Int) : ((HexForm (tx (sepP t)) ∧ isTxt (sepR t) = true) ∧ numF t m = if 0 ≤ m ∧ hexTo (tx (sepP t)) (tx (sepP t)).size ≤ m ∧ hexTo (tx (sepP t)) (tx (sepP t)).size ≤ 4611686018427387904 then .ok (hexTo (tx (sepP t)) (tx (sepP t)).size).toNat else .error 4) ∨ (¬ (HexForm (tx (sepP t)) ∧ isTxt (sepR t) = true) ∧ numF t m = .error 3) := by
  have key : (∀ c ∈ sepP t, hexB c = true) → hxP t = sepP t ∧ hxR t = sepR t := by
    intro h
    have hs : t = sepP t ++ sepR t := (List.takeWhile_append_dropWhile ..).symm
    have h1 : (sepP t ++ sepR t).takeWhile hexB = sepP t ++ (sepR t).takeWhile hexB := List.takeWhile_append_of_pos h
    have h2 : (sepP t ++ sepR t).dropWhile hexB = (sepR t).dropWhile hexB := List.dropWhile_append_of_pos h
    have h3 : (sepR t).takeWhile hexB = [] ∧ (sepR t).dropWhile hexB = sepR t := by
      rcases anyI_cases t with ⟨_, _, e⟩ | ⟨k, c, r, _, _, _, _, e, g⟩
      · rw [e]; exact ⟨rfl, rfl⟩
      · rw [e]
        have := sep_hex c g
        simp [List.takeWhile_cons, List.dropWhile_cons, this]
    unfold hxP hxR
    rw [← hs] at h1 h2
    rw [h1, h2, h3.1, h3.2, List.append_nil]
    exact ⟨rfl, rfl⟩
  have back : okR (hxR t) = true → sepP t = hxP t := by
    intro h
    have hs : t = hxP t ++ hxR t := (List.takeWhile_append_dropWhile ..).symm
    have hall : ∀ c ∈ hxP t, (!sepB c) = true := fun c hc => by
      have : hexB c = true := by
        have := List.all_takeWhile (p := hexB) (l := t)
        rw [List.all_eq_true] at this
        exact this c hc
      cases hq : sepB c with
      | false => rfl
      | true => rw [sep_hex c hq] at this; cases this
    have h1 : (hxP t ++ hxR t).takeWhile (fun c => !sepB c) = hxP t ++ (hxR t).takeWhile (fun c => !sepB c) := List.takeWhile_append_of_pos hall
    have h3 : (hxR t).takeWhile (fun c => !sepB c) = [] := by
      cases hr : hxR t with
      | nil => rfl
      | cons c r =>
        rw [hr] at h
        rw [okR_cons, Bool.and_eq_true] at h
        simp [List.takeWhile_cons, h.1]
    unfold sepP
    rw [← hs] at h1
    rw [h1, h3, List.append_nil]
  by_cases c : HexForm (tx (sepP t)) ∧ isTxt (sepR t) = true
  · refine .inl ⟨c, ?_⟩
    obtain ⟨⟨c1, c2, c3⟩, c4⟩ := c
    obtain ⟨e1, e2⟩ := key (hex_all.1 c3)
    rw [tx_size] at c1 c2
    unfold numF numV
    rw [e1, e2, if_pos, tx_size]
    refine ⟨?_, c1, c2⟩
    rcases anyI_cases t with ⟨_, _, e⟩ | ⟨k, c, r, _, _, _, _, e, g⟩
    · rw [e]; rfl
    · rw [e] at c4 ⊢
      rw [okR_cons, g, c4]; rfl
  · refine .inr ⟨c, ?_⟩
    unfold numF
    rw [if_neg]
    rintro ⟨h1, h2, h3⟩
    have e1 := back h1
    apply c
    have hh : ∀ c ∈ sepP t, hexB c = true := by
      rw [e1]
      intro c hc
      have := List.all_takeWhile (p := hexB) (l := t)
      rw [List.all_eq_true] at this
      exact this c hc
    refine ⟨⟨by rw [tx_size, e1]; exact h2, by rw [tx_size, e1]; exact h3, hex_all.2 hh⟩, ?_⟩
    rw [(key hh).2] at h1
    cases hr : sepR t with
    | nil => rfl
    | cons c r =>
      rw [hr] at h1
      rw [okR_cons, Bool.and_eq_true] at h1
      exact h1.2
def szN : Except Int Nat → Int
  | .ok n => n
  | .error _ => 0
def szE : Except Int Nat → Int
  | .ok _ => 0
  | .error e => e
/-- what sizeOf does with its digits and what is behind them -/
theorem numbers (t : List UInt8) (m : Int) : (isTxt (sepR t) = false ∧ numF t m = .error 3) ∨ (isTxt (sepR t) = true ∧ ((¬ HexForm (tx (sepP t)) ∧ numF t m = .error 3) ∨ (HexForm (tx (sepP t)) ∧ ((amE (hexTo (tx (sepP t)) (tx (sepP t)).size) m = 0 ∧ amN (hexTo (tx (sepP t)) (tx (sepP t)).size) m = szN (numF t m) ∧ szE (numF t m) = 0) ∨ (amE (hexTo (tx (sepP t)) (tx (sepP t)).size) m = 14 ∧ numF t m = .error 4))))) := by
  have h := numF_is t m
  cases ht : isTxt (sepR t) with
  | false =>
    left
    rcases h with ⟨⟨_, e⟩, _⟩ | ⟨_, e⟩
    · rw [ht] at e; cases e
    · exact ⟨rfl, e⟩
  | true =>
    right
    refine ⟨rfl, ?_⟩
    rcases h with ⟨⟨c, _⟩, e⟩ | ⟨c, e⟩
    · refine .inr ⟨c, ?_⟩
      have h0 := (hexTo_bd (tx (sepP t)) (tx (sepP t)).size).1
      generalize hexTo (tx (sepP t)) (tx (sepP t)).size = v at *
      unfold amE amN
      by_cases q : 0 ≤ m ∧ v ≤ m ∧ v ≤ 4611686018427387904
      · rw [if_pos q] at e
        rw [if_pos q, if_pos q, e]
        left
        exact ⟨rfl, by show v = ((v.toNat : Nat) : Int); omega, rfl⟩
      · rw [if_neg q] at e
        rw [if_neg q, if_neg q]
        exact .inr ⟨rfl, e⟩
    · exact .inl ⟨fun x => c ⟨x, ht⟩, e⟩
set_option maxHeartbeats 2000000 in
theorem sizeOf_any (s : ByteArray) (m : Int) (w : World) (hs : s.size ≤ 549755813888) (h2 : -9223372036854775808 ≤ m) (h3 : m ≤ 9223372036854775807) :
    Calls Tryz.prog 105 #[.string s, .int .i64 m] w fun e w' => e = .returned (.tuple #[.int .i64 (szN (numF (ls s) m)), .int .i64 (szE (numF (ls s) m))]) ∧ Below w.heap.size w w' := by
  have ia := fun w => indexAny_any s w (by omega)
  have hn := numbers (ls s) m
  have it : ∀ w, Calls Tryz.prog 122 #[.string (tx (sepR (ls s)))] w fun e w' => e = .returned (.bool (isTxt (sepR (ls s)))) ∧ Below w.heap.size w w' := fun w => by
    have h := isText_any (tx (sepR (ls s))) w (by
      rw [tx_size]
      have : (sepR (ls s)).length ≤ (ls s).length := (List.dropWhile_sublist _).length_le
      rw [ls_len] at this
      omega)
    rw [ls_tx] at h
    exact h
  have hPl : (tx (sepP (ls s))).size ≤ 4611686018427387904 := by
    rw [tx_size]
    have : (sepP (ls s)).length ≤ (ls s).length := (List.takeWhile_sublist _).length_le
    rw [ls_len] at this
    omega
  -- the digits' number
  have ux : ∀ w, Calls Tryz.prog 121 #[.string (tx (sepP (ls s))), .int .i64 m] w fun e w' => (∃ a b : Int, e = .returned (.tuple #[.int .i64 a, .int .i64 b]) ∧ (b = 14 → isTxt (sepR (ls s)) = true → numF (ls s) m = .error 4) ∧ (b ≠ 14 → isTxt (sepR (ls s)) = true → a = szN (numF (ls s) m) ∧ b = szE (numF (ls s) m))) ∧ w = w' := fun w => by
    by_cases hf : HexForm (tx (sepP (ls s)))
    · refine (unhexnum_yes _ m w hf h2 h3).mono fun e w' ⟨he, hw⟩ => ⟨⟨_, _, he, fun h14 ht => ?_, fun h14 ht => ?_⟩, hw⟩
      · rcases hn with ⟨x, _⟩ | ⟨_, ⟨x, _⟩ | ⟨_, ⟨x, _⟩ | ⟨_, x⟩⟩⟩
        · rw [ht] at x; cases x
        · exact absurd hf x
        · rw [h14] at x; cases x
        · exact x
      · rcases hn with ⟨x, _⟩ | ⟨_, ⟨x, _⟩ | ⟨_, ⟨x, y, z⟩ | ⟨x, _⟩⟩⟩
        · rw [ht] at x; cases x
        · exact absurd hf x
        · exact ⟨y, by rw [x, z]⟩
        · exact absurd x h14
    · refine (unhexnum_no _ m w hPl hf h2 h3).mono fun e w' ⟨he, hw⟩ => ⟨⟨_, _, he, fun h14 _ => by omega, fun _ ht => ?_⟩, hw⟩
      rcases hn with ⟨x, _⟩ | ⟨_, ⟨_, x⟩ | ⟨x, _⟩⟩
      · rw [ht] at x; cases x
      · rw [x]; exact ⟨rfl, rfl⟩
      · exact absurd x hf
  have bad : isTxt (sepR (ls s)) = false → szN (numF (ls s) m) = 0 ∧ szE (numF (ls s) m) = 3 := fun ht => by
    rcases hn with ⟨_, x⟩ | ⟨x, _⟩
    · rw [x]; exact ⟨rfl, rfl⟩
    · rw [ht] at x; cases x
  have four : numF (ls s) m = .error 4 → szN (numF (ls s) m) = 0 ∧ szE (numF (ls s) m) = 4 := fun x => by rw [x]; exact ⟨rfl, rfl⟩
  have split : (anyI (ls s) = -1 ∧ tx (sepP (ls s)) = s ∧ tx (sepR (ls s)) = ⟨#[]⟩) ∨ ∃ k : Nat, anyI (ls s) = k ∧ k < s.size ∧ s.extract 0 k = tx (sepP (ls s)) ∧ s.extract k s.size = tx (sepR (ls s)) := by
    rcases anyI_cases (ls s) with ⟨a, b, c⟩ | ⟨k, x, r, a, b, c, d, _, _⟩
    · exact .inl ⟨a, by rw [b, tx_ls], by rw [c]; rfl⟩
    · refine .inr ⟨k, a, by rwa [ls_len] at b, ls_inj (by rw [ls_extract, ls_tx, c]; simp), ls_inj (by rw [ls_extract, ls_tx, d]; exact List.take_of_length_le (by rw [List.length_drop, ls_len]; exact Nat.le_refl _))⟩
  clear hn hPl
  generalize isTxt (sepR (ls s)) = tv at *
  generalize tx (sepP (ls s)) = P at *
  generalize tx (sepR (ls s)) = R at *
  have four' := Lib.hid four
  have bad' := Lib.hid bad
  clear four bad
  generalize numF (ls s) m = nf at *
  -- the rest behind the two numbers
  rcases split with ⟨ai, rfl, rfl⟩ | ⟨k, ai, hk, eP, eR⟩
  · rw [ai] at ia
    clear ai
    go_enter Tryz.func105, Tryz.ntmps105
    go_wp2_with fail
    refine (ia _).mono ?_
    rintro e w1 ⟨rfl, G1⟩
    clear ia
    go_wp2_with fail
    refine (ux _).mono ?_
    rintro e w' ⟨⟨a, b, rfl, u1, u2⟩, rfl⟩
    clear ux
    have U1 := Lib.hid u1
    have U2 := Lib.hid u2
    clear u1 u2
    go_wp2_with fail
    refine (it _).mono ?_
    rintro e w2 ⟨rfl, G2⟩
    have G := G1.trans (G2.mono G1.size)
    clear it G1 G2
    cases tv with
    | false =>
      obtain ⟨b1, b2⟩ := bad'.out rfl
      have B1 := Lib.hid b1
      have B2 := Lib.hid b2
      clear b1 b2
      go_wp2
      go_ret2
      exact ⟨by rw [B1.out, B2.out]; rfl, G⟩
    | true =>
      by_cases h14 : b = 14
      · obtain ⟨b1, b2⟩ := four'.out (U1.out h14 rfl)
        have B1 := Lib.hid b1
        have B2 := Lib.hid b2
        subst h14
        clear b1 b2
        go_wp2
        go_ret2
        exact ⟨by rw [B1.out, B2.out]; rfl, G⟩
      · obtain ⟨b1, b2⟩ := U2.out h14 rfl
        have B1 := Lib.hid b1
        have B2 := Lib.hid b2
        have g14 : (b == 14) = false := beq_eq_false_iff_ne.2 h14
        clear b1 b2 h14
        go_wp2
        go_ret2
        exact ⟨by rw [← B1.out, ← B2.out]; rfl, G⟩
  · rw [ai] at ia
    clear ai
    have i1 : (k : Int) ≤ (s.size : Int) := by omega
    have i0 : (0 : Int) ≤ (k : Int) := by omega
    have EP := Lib.hid eP
    have ER := Lib.hid eR
    clear eP eR
    go_enter Tryz.func105, Tryz.ntmps105
    go_wp2_with fail
    refine (ia _).mono ?_
    rintro e w1 ⟨rfl, G1⟩
    clear ia
    go_wp2_with fail
    go_quiet (fail)
    have G1' : Below w.heap.size w (w1.drewN nq) := G1.trans ⟨rfl, rfl, rfl, Nat.le_refl _, fun _ _ => rfl⟩
    clear G1
    generalize w1.drewN nq = w1 at *
    rw [EP.out, ER.out]
    clear EP ER
    go_wp2_with fail
    refine (ux _).mono ?_
    rintro e w' ⟨⟨a, b, rfl, u1, u2⟩, rfl⟩
    clear ux
    have U1 := Lib.hid u1
    have U2 := Lib.hid u2
    clear u1 u2
    go_wp2_with fail
    refine (it _).mono ?_
    rintro e w2 ⟨rfl, G2⟩
    have G := G1'.trans (G2.mono G1'.size)
    clear it G1' G2
    cases tv with
    | false =>
      obtain ⟨b1, b2⟩ := bad'.out rfl
      have B1 := Lib.hid b1
      have B2 := Lib.hid b2
      clear b1 b2
      go_wp2
      go_ret2
      exact ⟨by rw [B1.out, B2.out]; rfl, G⟩
    | true =>
      by_cases h14 : b = 14
      · obtain ⟨b1, b2⟩ := four'.out (U1.out h14 rfl)
        have B1 := Lib.hid b1
        have B2 := Lib.hid b2
        subst h14
        clear b1 b2
        go_wp2
        go_ret2
        exact ⟨by rw [B1.out, B2.out]; rfl, G⟩
      · obtain ⟨b1, b2⟩ := U2.out h14 rfl
        have B1 := Lib.hid b1
        have B2 := Lib.hid b2
        have g14 : (b == 14) = false := beq_eq_false_iff_ne.2 h14
        clear b1 b2 h14
        go_wp2
        go_ret2
        exact ⟨by rw [← B1.out, ← B2.out]; rfl, G⟩
end Go.Proofs.YtbngfphiachnoaaGreatDoor.Ch
end

section
namespace Go.Proofs.YtbngfphiachnoaaGreatDoor.Ch
open Go.RowKit Go.PlainAid
open Hx Fi
set_option linter.unusedVariables false
set_option maxRecDepth 20000
set_option linter.unusedSimpArgs false

set_option maxHeartbeats 4000000 in
theorem readData_few {w : World} {p : Nat} {x y z : Value} {Z : Nat → Prop} {most n : Int} {k : Nat} {part data : List UInt8} {fs : Int} {rest : List UInt8} {wr : Int} (H : ChAt w p x y z Z ⟨1, most, n, k, part, data, fs, rest, wr⟩) (s : ByteArray)
    (hk : s.size < k) (hk2 : (k : Int) ≤ 9223372036854775807) (hn0 : 0 ≤ n) (hn : n + s.size ≤ 9223372036854775807) (hd : data.length + s.size ≤ 1099511627776) :
    Calls Tryz.prog 76 #[.pointer (some ⟨p, 0, none⟩), .string s] w fun e w' => e = .returned (.string (tx [])) ∧ Post w w' p Z ⟨1, most, n + s.size, ((k - s.size : Nat) : Int), part, data ++ ls s, fs, rest, wr⟩ := by
  have d3 := H.c3
  simp only at d3
  have mi : min (k : Int) (s.size : Int) = (s.size : Int) := by omega
  have es : ls s = ls s := rfl
  have e0 : s.extract s.size s.size = tx [] := ls_inj (by rw [ls_extract, ls_tx]; simp)
  have j1 : (k : Int) - (s.size : Int) = ((k - s.size : Nat) : Int) := by omega
  have j2 : (((k - s.size : Nat) : Int) == 0) = false := by rw [beq_eq_false_iff_ne]; omega
  have j3 : ¬ ((k - s.size : Nat) : Int) = 0 := by omega
  have ES := Lib.hid es
  have E0 := Lib.hid e0
  clear es e0
  go_enter Tryz.func76, Tryz.ntmps76
  go_upto_region 2 with (fail)
  clear d3
  have H0 := H.drew
  have B0 : Goes w w.drew Z Z := Goes.of_below ((Below.refl _ _).drew) Z
  have d5 := H0.c5
  refine wp_region_any (by kernel_rfl) ?_
  change wpAny _ _ _ _ _ _ _ w.drew
  refine any_take 0 (.pointer (some ⟨p, 0, none⟩)) rfl (by kernel_rfl) (by kernel_rfl) (by kernel_rfl) (fun _ _ _ h => h) (Or.inl ⟨by rfl, fun x => by go_simp⟩) (fun K hK => ?_)
  go_simp
  refine hK _ _ ?_
  clear hK K
  refine any_take 1 (.pointer (some ⟨p, 0, none⟩)) rfl (by kernel_rfl) (by kernel_rfl) (by kernel_rfl) (fun _ _ _ h => h) (Or.inl ⟨by rfl, fun x => by go_simp⟩) (fun K hK => ?_)
  go_simp
  refine hK _ _ ?_
  clear hK K
  refine any_take 2 (.pointer (some ⟨p, 0, none⟩)) rfl (by kernel_rfl) (by kernel_rfl) (by kernel_rfl) (fun _ _ _ h => h) (Or.inl ⟨by rfl, fun x => by go_simp⟩) (fun K hK => ?_)
  go_simp
  refine hK _ _ ?_
  clear hK K
  refine any_take 3 (.pointer (some ⟨p, 5, none⟩)) rfl (by kernel_rfl) (by kernel_rfl) (by kernel_rfl) (fun _ _ _ h => h) (Or.inl ⟨by rfl, fun x => by go_simp⟩) (fun K hK => ?_)
  go_simp
  refine hK _ _ ?_
  clear hK K
  refine any_take 5 (.string s) rfl (by kernel_rfl) (by kernel_rfl) (by kernel_rfl) (fun _ _ _ h => h) (Or.inl ⟨by rfl, fun x => by go_simp⟩) (fun K hK => ?_)
  go_simp
  refine hK _ _ ?_
  clear hK K
  refine any_take 6 (.int .i64 (s.size : Int)) rfl (by kernel_rfl) (by kernel_rfl) (by kernel_rfl) (fun _ _ _ h => h) (Or.inl ⟨by rfl, fun x => by go_simp⟩) (fun K hK => ?_)
  go_simp
  refine hK _ _ ?_
  clear hK K
  refine any_take 7 (.string s) rfl (by kernel_rfl) (by kernel_rfl) (by kernel_rfl) (fun _ _ _ h => h) (Or.inl ⟨by rfl, fun x => by go_simp⟩) (fun K hK => ?_)
  go_simp
  refine hK _ _ ?_
  clear hK K
  refine any_one 4 (by kernel_rfl) (fun K hK => wpOp_in rfl rfl ?_)
  go_simp
  refine hK _ _ ?_
  clear hK K
  refine any_one 8 (by kernel_rfl) (fun K hK => wpOp_in rfl rfl ?_)
  refine wp_app H0.py (s := s) (by simp only; omega) _ _ rfl rfl rfl ?_
  intro o4 m4 k4 w4 r4 g4 l4
  have hp4 := H0.st.same (g4.block p H0.st.lt fun e => row_ne H0.py H0.st e.symm rfl)
  have d4 := hp4.cell 5
  have q4 := hp4.frozen 5
  obtain ⟨H1, G1⟩ := H0.rowY g4 r4 l4
  clear hp4 r4 g4 l4
  refine hK _ _ ?_
  clear hK K
  refine any_take 9 (.pointer (some ⟨p, 0, none⟩)) rfl (by kernel_rfl) (by kernel_rfl) (by kernel_rfl) (fun _ _ _ h => h) (Or.inl ⟨by rfl, fun x => by go_simp⟩) (fun K hK => ?_)
  go_simp
  refine hK _ _ ?_
  clear hK K
  refine any_take 10 (.pointer (some ⟨p, 5, none⟩)) rfl (by kernel_rfl) (by kernel_rfl) (by kernel_rfl) (fun _ _ _ h => h) (Or.inl ⟨by rfl, fun x => by go_simp⟩) (fun K hK => ?_)
  go_simp
  refine hK _ _ ?_
  clear hK K
  refine any_one 11 (by kernel_rfl) (fun K hK => wpOp_in rfl rfl ?_)
  go_simp
  refine hK _ _ ?_
  clear hK K
  refine wpAny_done (by kernel_rfl) ?_ _
  generalize w4.setCell ⟨p, 5, none⟩ (.slice o4 m4 k4) = w5 at *
  generalize Zn Z (.slice o4 m4 k4) = Z1 at *
  have GA := B0.trans G1
  clear G1 B0
  clear H0
  have H1b : ChAt w5 p x (.slice o4 m4 k4) z Z1 ⟨1, most, n, k, part, data ++ ls s, fs, rest, wr⟩ := by have h := H1; simp only [ES.out] at h; exact h
  clear H1
  have d2 := H1b.c2
  have f2 := H1b.fz 2
  simp only at d2
  go_upto_region 4 with (fail)
  obtain ⟨H2, G2⟩ := H1b.num 2 (.int .i64 (n + (s.size : Int))) (c' := ⟨1, most, n + (s.size : Int), k, part, data ++ ls s, fs, rest, wr⟩) rfl rfl rfl rfl
  generalize w5.setCell ⟨p, 2, none⟩ (.int .i64 (n + (s.size : Int))) = w6 at H2 G2 ⊢
  clear d2 f2 H1b
  have d3 := H2.c3
  have f3 := H2.fz 3
  simp only at d3
  go_upto_region 5 with (fail)
  obtain ⟨H3, G3⟩ := H2.num 3 (.int .i64 (((k - s.size : Nat) : Int))) (c' := ⟨1, most, n + (s.size : Int), ((k - s.size : Nat) : Int), part, data ++ ls s, fs, rest, wr⟩) rfl rfl rfl rfl
  generalize w6.setCell ⟨p, 3, none⟩ (.int .i64 (((k - s.size : Nat) : Int))) = w7 at H3 G3 ⊢
  clear d3 f3 H2
  have d3 := H3.c3
  have f0 := H3.fz 0
  have d0 := H3.c0
  simp only at d3 d0
  go_wp2
  go_ret
  exact ⟨by first | rfl | (rw [← E0.out]; rfl), _, ⟨_, _, _, H3⟩, GA.trans (G2.trans G3)⟩
set_option maxHeartbeats 4000000 in
theorem readData_all {w : World} {p : Nat} {x y z : Value} {Z : Nat → Prop} {most n : Int} {k : Nat} {part data : List UInt8} {fs : Int} {rest : List UInt8} {wr : Int} (H : ChAt w p x y z Z ⟨1, most, n, k, part, data, fs, rest, wr⟩) (s : ByteArray)
    (hk : k ≤ s.size) (hk2 : (k : Int) ≤ 9223372036854775807) (hn0 : 0 ≤ n) (hn : n + k ≤ 9223372036854775807) (hd : data.length + s.size ≤ 1099511627776) :
    Calls Tryz.prog 76 #[.pointer (some ⟨p, 0, none⟩), .string s] w fun e w' => e = .returned (.string (tx ((ls s).drop k))) ∧ Post w w' p Z ⟨2, most, n + k, 0, part, data ++ (ls s).take k, fs, rest, wr⟩ := by
  have d3 := H.c3
  simp only at d3
  have mi : min (k : Int) (s.size : Int) = (k : Int) := by omega
  have es : ls (s.extract 0 k) = (ls s).take k := by rw [ls_extract]; simp
  have ez : (s.extract 0 k).size = k := by rw [ByteArray.size_extract]; omega
  have e0 : s.extract k s.size = tx ((ls s).drop k) := ls_inj (by rw [ls_extract, ls_tx]; exact List.take_of_length_le (by rw [List.length_drop, ls_len]; exact Nat.le_refl _))
  have i1 : (k : Int) ≤ (s.size : Int) := by omega
  have ES := Lib.hid es
  have E0 := Lib.hid e0
  clear es e0
  have EZ := Lib.hid ez
  clear ez
  go_enter Tryz.func76, Tryz.ntmps76
  go_upto_region 2 with (fail)
  clear d3
  have H0 := H.drew
  have B0 : Goes w w.drew Z Z := Goes.of_below ((Below.refl _ _).drew) Z
  have d5 := H0.c5
  refine wp_region_any (by kernel_rfl) ?_
  change wpAny _ _ _ _ _ _ _ w.drew
  refine any_take 0 (.pointer (some ⟨p, 0, none⟩)) rfl (by kernel_rfl) (by kernel_rfl) (by kernel_rfl) (fun _ _ _ h => h) (Or.inl ⟨by rfl, fun x => by go_simp⟩) (fun K hK => ?_)
  go_simp
  refine hK _ _ ?_
  clear hK K
  refine any_take 1 (.pointer (some ⟨p, 0, none⟩)) rfl (by kernel_rfl) (by kernel_rfl) (by kernel_rfl) (fun _ _ _ h => h) (Or.inl ⟨by rfl, fun x => by go_simp⟩) (fun K hK => ?_)
  go_simp
  refine hK _ _ ?_
  clear hK K
  refine any_take 2 (.pointer (some ⟨p, 0, none⟩)) rfl (by kernel_rfl) (by kernel_rfl) (by kernel_rfl) (fun _ _ _ h => h) (Or.inl ⟨by rfl, fun x => by go_simp⟩) (fun K hK => ?_)
  go_simp
  refine hK _ _ ?_
  clear hK K
  refine any_take 3 (.pointer (some ⟨p, 5, none⟩)) rfl (by kernel_rfl) (by kernel_rfl) (by kernel_rfl) (fun _ _ _ h => h) (Or.inl ⟨by rfl, fun x => by go_simp⟩) (fun K hK => ?_)
  go_simp
  refine hK _ _ ?_
  clear hK K
  refine any_take 5 (.string s) rfl (by kernel_rfl) (by kernel_rfl) (by kernel_rfl) (fun _ _ _ h => h) (Or.inl ⟨by rfl, fun x => by go_simp⟩) (fun K hK => ?_)
  go_simp
  refine hK _ _ ?_
  clear hK K
  refine any_take 6 (.int .i64 (k : Int)) rfl (by kernel_rfl) (by kernel_rfl) (by kernel_rfl) (fun _ _ _ h => h) (Or.inl ⟨by rfl, fun x => by go_simp⟩) (fun K hK => ?_)
  go_simp
  refine hK _ _ ?_
  clear hK K
  refine any_take 7 (.string (s.extract 0 k)) rfl (by kernel_rfl) (by kernel_rfl) (by kernel_rfl) (fun _ _ _ h => h) (Or.inl ⟨by rfl, fun x => by go_simp⟩) (fun K hK => ?_)
  go_simp
  refine hK _ _ ?_
  clear hK K
  refine any_one 4 (by kernel_rfl) (fun K hK => wpOp_in rfl rfl ?_)
  go_simp
  refine hK _ _ ?_
  clear hK K
  refine any_one 8 (by kernel_rfl) (fun K hK => wpOp_in rfl rfl ?_)
  refine wp_app H0.py (s := (s.extract 0 k)) (by simp only; rw [EZ.out]; omega) _ _ rfl rfl rfl ?_
  intro o4 m4 k4 w4 r4 g4 l4
  have hp4 := H0.st.same (g4.block p H0.st.lt fun e => row_ne H0.py H0.st e.symm rfl)
  have d4 := hp4.cell 5
  have q4 := hp4.frozen 5
  obtain ⟨H1, G1⟩ := H0.rowY g4 r4 l4
  clear hp4 r4 g4 l4
  refine hK _ _ ?_
  clear hK K
  refine any_take 9 (.pointer (some ⟨p, 0, none⟩)) rfl (by kernel_rfl) (by kernel_rfl) (by kernel_rfl) (fun _ _ _ h => h) (Or.inl ⟨by rfl, fun x => by go_simp⟩) (fun K hK => ?_)
  go_simp
  refine hK _ _ ?_
  clear hK K
  refine any_take 10 (.pointer (some ⟨p, 5, none⟩)) rfl (by kernel_rfl) (by kernel_rfl) (by kernel_rfl) (fun _ _ _ h => h) (Or.inl ⟨by rfl, fun x => by go_simp⟩) (fun K hK => ?_)
  go_simp
  refine hK _ _ ?_
  clear hK K
  refine any_one 11 (by kernel_rfl) (fun K hK => wpOp_in rfl rfl ?_)
  go_simp
  refine hK _ _ ?_
  clear hK K
  refine wpAny_done (by kernel_rfl) ?_ _
  generalize w4.setCell ⟨p, 5, none⟩ (.slice o4 m4 k4) = w5 at *
  generalize Zn Z (.slice o4 m4 k4) = Z1 at *
  have GA := B0.trans G1
  clear G1 B0
  clear H0
  have H1b : ChAt w5 p x (.slice o4 m4 k4) z Z1 ⟨1, most, n, k, part, data ++ (ls s).take k, fs, rest, wr⟩ := by have h := H1; simp only [ES.out] at h; exact h
  clear H1
  have d2 := H1b.c2
  have f2 := H1b.fz 2
  simp only at d2
  go_upto_region 4 with (fail)
  obtain ⟨H2, G2⟩ := H1b.num 2 (.int .i64 (n + (k : Int))) (c' := ⟨1, most, n + (k : Int), k, part, data ++ (ls s).take k, fs, rest, wr⟩) rfl rfl rfl rfl
  generalize w5.setCell ⟨p, 2, none⟩ (.int .i64 (n + (k : Int))) = w6 at H2 G2 ⊢
  clear d2 f2 H1b
  have d3 := H2.c3
  have f3 := H2.fz 3
  simp only at d3
  go_upto_region 5 with (fail)
  obtain ⟨H3, G3⟩ := H2.num 3 (.int .i64 (0)) (c' := ⟨1, most, n + (k : Int), 0, part, data ++ (ls s).take k, fs, rest, wr⟩) rfl rfl rfl rfl
  generalize w6.setCell ⟨p, 3, none⟩ (.int .i64 (0)) = w7 at H3 G3 ⊢
  clear d3 f3 H2
  have d3 := H3.c3
  have f0 := H3.fz 0
  have d0 := H3.c0
  simp only at d3 d0
  go_upto_region 7 with (fail)
  obtain ⟨H4, G4⟩ := H3.num 0 (.int .i64 2) (c' := ⟨2, most, n + (k : Int), 0, part, data ++ (ls s).take k, fs, rest, wr⟩) rfl rfl rfl rfl
  generalize w7.setCell ⟨p, 0, none⟩ (.int .i64 2) = w8 at H4 G4 ⊢
  go_wp2
  go_ret
  exact ⟨by first | rfl | (rw [← E0.out]; rfl), _, ⟨_, _, _, H4⟩, GA.trans (G2.trans (G3.trans G4))⟩
set_option maxHeartbeats 4000000 in
theorem readSize_err {w : World} {p : Nat} {x y z : Value} {Z : Nat → Prop} {most n due : Int} {part data : List UInt8} {fs : Int} {rest : List UInt8} {wr nx : Int} (H : ChAt w p x y z Z ⟨nx, most, n, due, part, data, fs, rest, wr⟩) (s : ByteArray) (hs : s.size ≤ 549755813888) (hm1 : 0 ≤ n) (hm2 : n ≤ most) (hm3 : most ≤ 9223372036854775807) {e0 : Int} (hq : numF (ls s) (most - n) = .error e0) (he : e0 = 3 ∨ e0 = 4) :
    Calls Tryz.prog 79 #[.pointer (some ⟨p, 0, none⟩), .string s] w fun e w' => e = .returned (.int .i64 e0) ∧ Post w w' p Z ⟨nx, most, n, due, part, data, fs, rest, wr⟩ := by
  have so : ∀ w, Calls Tryz.prog 105 #[.string s, .int .i64 (most - n)] w fun e w' => e = .returned (.tuple #[.int .i64 0, .int .i64 e0]) ∧ Below w.heap.size w w' := fun w => by
    have h := sizeOf_any s (most - n) w hs (by omega) (by omega)
    rw [hq] at h
    exact h
  have wr1 : IntKind.i64.wrap (most - n) = most - n := IntWalk.i64_in _ (by omega)
  clear hq
  have g0 : (e0 != 0) = true := by rw [bne_iff_ne]; omega
  clear he
  go_enter Tryz.func79, Tryz.ntmps79
  go_upto_region 1 with (fail)
  refine wp_region_held (S := fun u => ChAt u p x y z Z ⟨nx, most, n, due, part, data, fs, rest, wr⟩) (by kernel_rfl) ?_
  change wpAnyH _ _ _ _ _ _ _ _ w.drew
  have J := H.drew
  have B0 : Below w.heap.size w w.drew := (Below.refl _ _).drew
  have hz0 : w.heap.size ≤ w.drew.heap.size := Nat.le_refl _
  generalize w.drew = w1 at J B0 hz0 ⊢
  refine held_take 0 (.string s) rfl (by kernel_rfl) (by kernel_rfl) (by kernel_rfl) (fun _ _ _ h => h) (Or.inl ⟨by rfl, fun x j => by go_simp⟩) J (fun K hK => ?_)
  go_simp
  refine hK _ _ ?_
  clear hK K
  refine held_take 1 (.pointer (some ⟨p, 0, none⟩)) rfl (by kernel_rfl) (by kernel_rfl) (by kernel_rfl) (fun _ _ _ h => h) (Or.inl ⟨by rfl, fun x j => by go_simp⟩) J (fun K hK => ?_)
  go_simp
  refine hK _ _ ?_
  clear hK K
  refine held_take 2 (.pointer (some ⟨p, 0, none⟩)) rfl (by kernel_rfl) (by kernel_rfl) (by kernel_rfl) (fun _ _ _ h => h) (Or.inl ⟨by rfl, fun x j => by go_simp⟩) J (fun K hK => ?_)
  go_simp
  refine hK _ _ ?_
  clear hK K
  refine held_take 3 (.pointer (some ⟨p, 1, none⟩)) rfl (by kernel_rfl) (by kernel_rfl) (by kernel_rfl) (fun _ _ _ h => h) (Or.inl ⟨by rfl, fun x j => by go_simp⟩) J (fun K hK => ?_)
  go_simp
  refine hK _ _ ?_
  clear hK K
  refine held_take 4 (.int .i64 most) rfl (by kernel_rfl) (by kernel_rfl) (by kernel_rfl) (fun _ _ _ h => h) (Or.inl ⟨by rfl, fun x j => by have q := j.c1; simp only at q; go_simp⟩) J (fun K hK => ?_)
  go_simp
  refine hK _ _ ?_
  clear hK K
  refine held_take 5 (.pointer (some ⟨p, 0, none⟩)) rfl (by kernel_rfl) (by kernel_rfl) (by kernel_rfl) (fun _ _ _ h => h) (Or.inl ⟨by rfl, fun x j => by go_simp⟩) J (fun K hK => ?_)
  go_simp
  refine hK _ _ ?_
  clear hK K
  refine held_take 6 (.pointer (some ⟨p, 0, none⟩)) rfl (by kernel_rfl) (by kernel_rfl) (by kernel_rfl) (fun _ _ _ h => h) (Or.inl ⟨by rfl, fun x j => by go_simp⟩) J (fun K hK => ?_)
  go_simp
  refine hK _ _ ?_
  clear hK K
  refine held_take 7 (.pointer (some ⟨p, 2, none⟩)) rfl (by kernel_rfl) (by kernel_rfl) (by kernel_rfl) (fun _ _ _ h => h) (Or.inl ⟨by rfl, fun x j => by go_simp⟩) J (fun K hK => ?_)
  go_simp
  refine hK _ _ ?_
  clear hK K
  refine held_take 8 (.int .i64 n) rfl (by kernel_rfl) (by kernel_rfl) (by kernel_rfl) (fun _ _ _ h => h) (Or.inl ⟨by rfl, fun x j => by have q := j.c2; simp only at q; go_simp⟩) J (fun K hK => ?_)
  go_simp
  refine hK _ _ ?_
  clear hK K
  refine held_take 9 (.int .i64 (most - n)) rfl (by kernel_rfl) (by kernel_rfl) (by kernel_rfl) (fun _ _ _ h => h) (Or.inl ⟨by rfl, fun x j => by go_simp⟩) J (fun K hK => ?_)
  go_simp
  refine hK _ _ ?_
  clear hK K
  refine held_one 10 (by kernel_rfl) (fun K hK => wpOp_in rfl rfl ?_)
  go_simp
  refine (so _).mono ?_
  rintro e w2 ⟨rfl, b2⟩
  have J2 := J.old b2
  have B2 := B0.trans (b2.mono hz0)
  refine hK _ _ J2 ?_
  clear so J b2 B0
  clear hK K
  refine held_take 11 (.tuple #[.int .i64 0, .int .i64 e0]) rfl (by kernel_rfl) (by kernel_rfl) (by kernel_rfl) (fun _ _ _ h => h) (Or.inl ⟨by rfl, fun x j => by go_simp⟩) J2 (fun K hK => ?_)
  go_simp
  refine hK _ _ ?_
  clear hK K
  refine held_take 12 (.int .i64 0) rfl (by kernel_rfl) (by kernel_rfl) (by kernel_rfl) (fun _ _ _ h => h) (Or.inl ⟨by rfl, fun x j => by go_simp⟩) J2 (fun K hK => ?_)
  go_simp
  refine hK _ _ ?_
  clear hK K
  refine held_take 13 (.int .i64 e0) rfl (by kernel_rfl) (by kernel_rfl) (by kernel_rfl) (fun _ _ _ h => h) (Or.inl ⟨by rfl, fun x j => by go_simp⟩) J2 (fun K hK => ?_)
  go_simp
  refine hK _ _ ?_
  clear hK K
  refine held_take 14 (.int .i64 0) rfl (by kernel_rfl) (by kernel_rfl) (by kernel_rfl) (fun _ _ _ h => h) (Or.inl ⟨by rfl, fun x j => by go_simp⟩) J2 (fun K hK => ?_)
  go_simp
  refine hK _ _ ?_
  clear hK K
  refine held_take 15 (.int .i64 e0) rfl (by kernel_rfl) (by kernel_rfl) (by kernel_rfl) (fun _ _ _ h => h) (Or.inl ⟨by rfl, fun x j => by go_simp⟩) J2 (fun K hK => ?_)
  go_simp
  refine hK _ _ ?_
  clear hK K
  refine wpAnyH_done (by kernel_rfl) ?_ _
  have GB : Goes w w2 Z Z := Goes.of_below B2 Z
  clear wr1
  go_wp2
  go_ret
  exact ⟨rfl, _, ⟨_, _, _, J2⟩, GB⟩
set_option maxHeartbeats 4000000 in
theorem readSize_last {w : World} {p : Nat} {x y z : Value} {Z : Nat → Prop} {most n due : Int} {part data : List UInt8} {fs : Int} {rest : List UInt8} {wr nx : Int} (H : ChAt w p x y z Z ⟨nx, most, n, due, part, data, fs, rest, wr⟩) (s : ByteArray) (hs : s.size ≤ 549755813888) (hm1 : 0 ≤ n) (hm2 : n ≤ most) (hm3 : most ≤ 9223372036854775807) (hq : numF (ls s) (most - n) = .ok 0) :
    Calls Tryz.prog 79 #[.pointer (some ⟨p, 0, none⟩), .string s] w fun e w' => e = .returned (.int .i64 0) ∧ Post w w' p Z ⟨3, most, n, due, part, data, fs, rest, wr⟩ := by
  have so : ∀ w, Calls Tryz.prog 105 #[.string s, .int .i64 (most - n)] w fun e w' => e = .returned (.tuple #[.int .i64 0, .int .i64 0]) ∧ Below w.heap.size w w' := fun w => by
    have h := sizeOf_any s (most - n) w hs (by omega) (by omega)
    rw [hq] at h
    exact h
  have wr1 : IntKind.i64.wrap (most - n) = most - n := IntWalk.i64_in _ (by omega)
  clear hq
  go_enter Tryz.func79, Tryz.ntmps79
  go_upto_region 1 with (fail)
  refine wp_region_held (S := fun u => ChAt u p x y z Z ⟨nx, most, n, due, part, data, fs, rest, wr⟩) (by kernel_rfl) ?_
  change wpAnyH _ _ _ _ _ _ _ _ w.drew
  have J := H.drew
  have B0 : Below w.heap.size w w.drew := (Below.refl _ _).drew
  have hz0 : w.heap.size ≤ w.drew.heap.size := Nat.le_refl _
  generalize w.drew = w1 at J B0 hz0 ⊢
  refine held_take 0 (.string s) rfl (by kernel_rfl) (by kernel_rfl) (by kernel_rfl) (fun _ _ _ h => h) (Or.inl ⟨by rfl, fun x j => by go_simp⟩) J (fun K hK => ?_)
  go_simp
  refine hK _ _ ?_
  clear hK K
  refine held_take 1 (.pointer (some ⟨p, 0, none⟩)) rfl (by kernel_rfl) (by kernel_rfl) (by kernel_rfl) (fun _ _ _ h => h) (Or.inl ⟨by rfl, fun x j => by go_simp⟩) J (fun K hK => ?_)
  go_simp
  refine hK _ _ ?_
  clear hK K
  refine held_take 2 (.pointer (some ⟨p, 0, none⟩)) rfl (by kernel_rfl) (by kernel_rfl) (by kernel_rfl) (fun _ _ _ h => h) (Or.inl ⟨by rfl, fun x j => by go_simp⟩) J (fun K hK => ?_)
  go_simp
  refine hK _ _ ?_
  clear hK K
  refine held_take 3 (.pointer (some ⟨p, 1, none⟩)) rfl (by kernel_rfl) (by kernel_rfl) (by kernel_rfl) (fun _ _ _ h => h) (Or.inl ⟨by rfl, fun x j => by go_simp⟩) J (fun K hK => ?_)
  go_simp
  refine hK _ _ ?_
  clear hK K
  refine held_take 4 (.int .i64 most) rfl (by kernel_rfl) (by kernel_rfl) (by kernel_rfl) (fun _ _ _ h => h) (Or.inl ⟨by rfl, fun x j => by have q := j.c1; simp only at q; go_simp⟩) J (fun K hK => ?_)
  go_simp
  refine hK _ _ ?_
  clear hK K
  refine held_take 5 (.pointer (some ⟨p, 0, none⟩)) rfl (by kernel_rfl) (by kernel_rfl) (by kernel_rfl) (fun _ _ _ h => h) (Or.inl ⟨by rfl, fun x j => by go_simp⟩) J (fun K hK => ?_)
  go_simp
  refine hK _ _ ?_
  clear hK K
  refine held_take 6 (.pointer (some ⟨p, 0, none⟩)) rfl (by kernel_rfl) (by kernel_rfl) (by kernel_rfl) (fun _ _ _ h => h) (Or.inl ⟨by rfl, fun x j => by go_simp⟩) J (fun K hK => ?_)
  go_simp
  refine hK _ _ ?_
  clear hK K
  refine held_take 7 (.pointer (some ⟨p, 2, none⟩)) rfl (by kernel_rfl) (by kernel_rfl) (by kernel_rfl) (fun _ _ _ h => h) (Or.inl ⟨by rfl, fun x j => by go_simp⟩) J (fun K hK => ?_)
  go_simp
  refine hK _ _ ?_
  clear hK K
  refine held_take 8 (.int .i64 n) rfl (by kernel_rfl) (by kernel_rfl) (by kernel_rfl) (fun _ _ _ h => h) (Or.inl ⟨by rfl, fun x j => by have q := j.c2; simp only at q; go_simp⟩) J (fun K hK => ?_)
  go_simp
  refine hK _ _ ?_
  clear hK K
  refine held_take 9 (.int .i64 (most - n)) rfl (by kernel_rfl) (by kernel_rfl) (by kernel_rfl) (fun _ _ _ h => h) (Or.inl ⟨by rfl, fun x j => by go_simp⟩) J (fun K hK => ?_)
  go_simp
  refine hK _ _ ?_
  clear hK K
  refine held_one 10 (by kernel_rfl) (fun K hK => wpOp_in rfl rfl ?_)
  go_simp
  refine (so _).mono ?_
  rintro e w2 ⟨rfl, b2⟩
  have J2 := J.old b2
  have B2 := B0.trans (b2.mono hz0)
  refine hK _ _ J2 ?_
  clear so J b2 B0
  clear hK K
  refine held_take 11 (.tuple #[.int .i64 0, .int .i64 0]) rfl (by kernel_rfl) (by kernel_rfl) (by kernel_rfl) (fun _ _ _ h => h) (Or.inl ⟨by rfl, fun x j => by go_simp⟩) J2 (fun K hK => ?_)
  go_simp
  refine hK _ _ ?_
  clear hK K
  refine held_take 12 (.int .i64 0) rfl (by kernel_rfl) (by kernel_rfl) (by kernel_rfl) (fun _ _ _ h => h) (Or.inl ⟨by rfl, fun x j => by go_simp⟩) J2 (fun K hK => ?_)
  go_simp
  refine hK _ _ ?_
  clear hK K
  refine held_take 13 (.int .i64 0) rfl (by kernel_rfl) (by kernel_rfl) (by kernel_rfl) (fun _ _ _ h => h) (Or.inl ⟨by rfl, fun x j => by go_simp⟩) J2 (fun K hK => ?_)
  go_simp
  refine hK _ _ ?_
  clear hK K
  refine held_take 14 (.int .i64 0) rfl (by kernel_rfl) (by kernel_rfl) (by kernel_rfl) (fun _ _ _ h => h) (Or.inl ⟨by rfl, fun x j => by go_simp⟩) J2 (fun K hK => ?_)
  go_simp
  refine hK _ _ ?_
  clear hK K
  refine held_take 15 (.int .i64 0) rfl (by kernel_rfl) (by kernel_rfl) (by kernel_rfl) (fun _ _ _ h => h) (Or.inl ⟨by rfl, fun x j => by go_simp⟩) J2 (fun K hK => ?_)
  go_simp
  refine hK _ _ ?_
  clear hK K
  refine wpAnyH_done (by kernel_rfl) ?_ _
  have GB : Goes w w2 Z Z := Goes.of_below B2 Z
  clear wr1
  have f0 := J2.fz 0
  have d0 := J2.c0
  simp only at d0
  obtain ⟨H4, G4⟩ := J2.num 0 (.int .i64 3) (c' := ⟨3, most, n, due, part, data, fs, rest, wr⟩) rfl rfl rfl rfl
  go_wp2
  go_ret
  exact ⟨rfl, _, ⟨_, _, _, H4⟩, GB.trans G4⟩
set_option maxHeartbeats 4000000 in
theorem readSize_more {w : World} {p : Nat} {x y z : Value} {Z : Nat → Prop} {most n due : Int} {part data : List UInt8} {fs : Int} {rest : List UInt8} {wr nx : Int} (H : ChAt w p x y z Z ⟨nx, most, n, due, part, data, fs, rest, wr⟩) (s : ByteArray) (hs : s.size ≤ 549755813888) (hm1 : 0 ≤ n) (hm2 : n ≤ most) (hm3 : most ≤ 9223372036854775807) {d : Nat} (hq : numF (ls s) (most - n) = .ok d) (hd : 0 < d) :
    Calls Tryz.prog 79 #[.pointer (some ⟨p, 0, none⟩), .string s] w fun e w' => e = .returned (.int .i64 0) ∧ Post w w' p Z ⟨1, most, n, d, part, data, fs, rest, wr⟩ := by
  have so : ∀ w, Calls Tryz.prog 105 #[.string s, .int .i64 (most - n)] w fun e w' => e = .returned (.tuple #[.int .i64 (d : Int), .int .i64 0]) ∧ Below w.heap.size w w' := fun w => by
    have h := sizeOf_any s (most - n) w hs (by omega) (by omega)
    rw [hq] at h
    exact h
  have wr1 : IntKind.i64.wrap (most - n) = most - n := IntWalk.i64_in _ (by omega)
  clear hq
  have g0 : ((d : Int) == 0) = false := by rw [beq_eq_false_iff_ne]; omega
  have g1 : ¬ (d : Int) = 0 := by omega
  clear hd
  go_enter Tryz.func79, Tryz.ntmps79
  go_upto_region 1 with (fail)
  refine wp_region_held (S := fun u => ChAt u p x y z Z ⟨nx, most, n, due, part, data, fs, rest, wr⟩) (by kernel_rfl) ?_
  change wpAnyH _ _ _ _ _ _ _ _ w.drew
  have J := H.drew
  have B0 : Below w.heap.size w w.drew := (Below.refl _ _).drew
  have hz0 : w.heap.size ≤ w.drew.heap.size := Nat.le_refl _
  generalize w.drew = w1 at J B0 hz0 ⊢
  refine held_take 0 (.string s) rfl (by kernel_rfl) (by kernel_rfl) (by kernel_rfl) (fun _ _ _ h => h) (Or.inl ⟨by rfl, fun x j => by go_simp⟩) J (fun K hK => ?_)
  go_simp
  refine hK _ _ ?_
  clear hK K
  refine held_take 1 (.pointer (some ⟨p, 0, none⟩)) rfl (by kernel_rfl) (by kernel_rfl) (by kernel_rfl) (fun _ _ _ h => h) (Or.inl ⟨by rfl, fun x j => by go_simp⟩) J (fun K hK => ?_)
  go_simp
  refine hK _ _ ?_
  clear hK K
  refine held_take 2 (.pointer (some ⟨p, 0, none⟩)) rfl (by kernel_rfl) (by kernel_rfl) (by kernel_rfl) (fun _ _ _ h => h) (Or.inl ⟨by rfl, fun x j => by go_simp⟩) J (fun K hK => ?_)
  go_simp
  refine hK _ _ ?_
  clear hK K
  refine held_take 3 (.pointer (some ⟨p, 1, none⟩)) rfl (by kernel_rfl) (by kernel_rfl) (by kernel_rfl) (fun _ _ _ h => h) (Or.inl ⟨by rfl, fun x j => by go_simp⟩) J (fun K hK => ?_)
  go_simp
  refine hK _ _ ?_
  clear hK K
  refine held_take 4 (.int .i64 most) rfl (by kernel_rfl) (by kernel_rfl) (by kernel_rfl) (fun _ _ _ h => h) (Or.inl ⟨by rfl, fun x j => by have q := j.c1; simp only at q; go_simp⟩) J (fun K hK => ?_)
  go_simp
  refine hK _ _ ?_
  clear hK K
  refine held_take 5 (.pointer (some ⟨p, 0, none⟩)) rfl (by kernel_rfl) (by kernel_rfl) (by kernel_rfl) (fun _ _ _ h => h) (Or.inl ⟨by rfl, fun x j => by go_simp⟩) J (fun K hK => ?_)
  go_simp
  refine hK _ _ ?_
  clear hK K
  refine held_take 6 (.pointer (some ⟨p, 0, none⟩)) rfl (by kernel_rfl) (by kernel_rfl) (by kernel_rfl) (fun _ _ _ h => h) (Or.inl ⟨by rfl, fun x j => by go_simp⟩) J (fun K hK => ?_)
  go_simp
  refine hK _ _ ?_
  clear hK K
  refine held_take 7 (.pointer (some ⟨p, 2, none⟩)) rfl (by kernel_rfl) (by kernel_rfl) (by kernel_rfl) (fun _ _ _ h => h) (Or.inl ⟨by rfl, fun x j => by go_simp⟩) J (fun K hK => ?_)
  go_simp
  refine hK _ _ ?_
  clear hK K
  refine held_take 8 (.int .i64 n) rfl (by kernel_rfl) (by kernel_rfl) (by kernel_rfl) (fun _ _ _ h => h) (Or.inl ⟨by rfl, fun x j => by have q := j.c2; simp only at q; go_simp⟩) J (fun K hK => ?_)
  go_simp
  refine hK _ _ ?_
  clear hK K
  refine held_take 9 (.int .i64 (most - n)) rfl (by kernel_rfl) (by kernel_rfl) (by kernel_rfl) (fun _ _ _ h => h) (Or.inl ⟨by rfl, fun x j => by go_simp⟩) J (fun K hK => ?_)
  go_simp
  refine hK _ _ ?_
  clear hK K
  refine held_one 10 (by kernel_rfl) (fun K hK => wpOp_in rfl rfl ?_)
  go_simp
  refine (so _).mono ?_
  rintro e w2 ⟨rfl, b2⟩
  have J2 := J.old b2
  have B2 := B0.trans (b2.mono hz0)
  refine hK _ _ J2 ?_
  clear so J b2 B0
  clear hK K
  refine held_take 11 (.tuple #[.int .i64 (d : Int), .int .i64 0]) rfl (by kernel_rfl) (by kernel_rfl) (by kernel_rfl) (fun _ _ _ h => h) (Or.inl ⟨by rfl, fun x j => by go_simp⟩) J2 (fun K hK => ?_)
  go_simp
  refine hK _ _ ?_
  clear hK K
  refine held_take 12 (.int .i64 (d : Int)) rfl (by kernel_rfl) (by kernel_rfl) (by kernel_rfl) (fun _ _ _ h => h) (Or.inl ⟨by rfl, fun x j => by go_simp⟩) J2 (fun K hK => ?_)
  go_simp
  refine hK _ _ ?_
  clear hK K
  refine held_take 13 (.int .i64 0) rfl (by kernel_rfl) (by kernel_rfl) (by kernel_rfl) (fun _ _ _ h => h) (Or.inl ⟨by rfl, fun x j => by go_simp⟩) J2 (fun K hK => ?_)
  go_simp
  refine hK _ _ ?_
  clear hK K
  refine held_take 14 (.int .i64 (d : Int)) rfl (by kernel_rfl) (by kernel_rfl) (by kernel_rfl) (fun _ _ _ h => h) (Or.inl ⟨by rfl, fun x j => by go_simp⟩) J2 (fun K hK => ?_)
  go_simp
  refine hK _ _ ?_
  clear hK K
  refine held_take 15 (.int .i64 0) rfl (by kernel_rfl) (by kernel_rfl) (by kernel_rfl) (fun _ _ _ h => h) (Or.inl ⟨by rfl, fun x j => by go_simp⟩) J2 (fun K hK => ?_)
  go_simp
  refine hK _ _ ?_
  clear hK K
  refine wpAnyH_done (by kernel_rfl) ?_ _
  have GB : Goes w w2 Z Z := Goes.of_below B2 Z
  clear wr1
  have f3 := J2.fz 3
  have d3 := J2.c3
  simp only at d3
  go_upto_region 3 with (fail)
  obtain ⟨H4, G4⟩ := J2.num 3 (.int .i64 (d : Int)) (c' := ⟨nx, most, n, d, part, data, fs, rest, wr⟩) rfl rfl rfl rfl
  generalize w2.setCell ⟨p, 3, none⟩ (.int .i64 (d : Int)) = w3 at H4 G4 ⊢
  clear f3 d3
  have f0 := H4.fz 0
  have d0 := H4.c0
  simp only at d0
  obtain ⟨H5, G5⟩ := H4.num 0 (.int .i64 1) (c' := ⟨1, most, n, d, part, data, fs, rest, wr⟩) rfl rfl rfl rfl
  go_wp2
  go_ret
  exact ⟨rfl, _, ⟨_, _, _, H5⟩, GB.trans (G4.trans G5)⟩
set_option maxHeartbeats 4000000 in
theorem readField_end {w : World} {p : Nat} {x y z : Value} {Z : Nat → Prop} {most n due : Int} {part data : List UInt8} {fs : Int} {rest : List UInt8} {wr nx : Int} (H : ChAt w p x y z Z ⟨nx, most, n, due, part, data, fs, rest, wr⟩) (s : ByteArray) (hs : s.size ≤ 549755813888) (h0 : s.size = 0) :
    Calls Tryz.prog 80 #[.pointer (some ⟨p, 0, none⟩), .string s] w fun e w' => e = .returned (.int .i64 0) ∧ Post w w' p Z ⟨4, most, n, due, part, data, fs, rest, wr⟩ := by
  have h1 := toList_nil s h0
  clear h0
  have f0 := H.fz 0
  have d0 := H.c0
  simp only at d0
  obtain ⟨H4, G4⟩ := H.num 0 (.int .i64 4) (c' := ⟨4, most, n, due, part, data, fs, rest, wr⟩) rfl rfl rfl rfl
  go_enter Tryz.func80, Tryz.ntmps80
  go_wp2
  go_ret
  exact ⟨rfl, _, ⟨_, _, _, H4⟩, G4⟩
set_option maxHeartbeats 4000000 in
theorem readField_form {w : World} {p : Nat} {x y z : Value} {Z : Nat → Prop} {most n due : Int} {part data : List UInt8} {fs : Int} {rest : List UInt8} {wr nx : Int} (H : ChAt w p x y z Z ⟨nx, most, n, due, part, data, fs, rest, wr⟩) (s : ByteArray) (hs : s.size ≤ 549755813888) (h0 : 0 < s.size) (hp : parseF (ls s) = none) :
    Calls Tryz.prog 80 #[.pointer (some ⟨p, 0, none⟩), .string s] w fun e w' => e = .returned (.int .i64 3) ∧ Post w w' p Z ⟨nx, most, n, due, part, data, fs, rest, wr⟩ := by
  have h1 := toList_ne s h0
  have h2 := toList_ne' s h0
  clear h0
  have pa : ∀ w, Calls Tryz.prog 99 #[.string s] w fun e w' => e = .returned (.tuple #[.agg (fdV (pF (ls s))), .int .i64 3]) ∧ Below w.heap.size w w' := fun w => by
    have h := parse_any s w (by omega)
    unfold ParsePost at h
    rw [(p_none hp).2] at h
    exact h
  clear hp
  generalize pF (ls s) = f at *
  go_enter Tryz.func80, Tryz.ntmps80
  go_wp2_with fail
  refine (pa _).mono ?_
  rintro e w1 ⟨rfl, b1⟩
  clear pa
  obtain ⟨X, S, A, B, _⟩ := fd_keep w1 f
  have BX := b1.trans (B.mono b1.size)
  have HX := H.old BX
  have GB : Goes w X Z Z := Goes.of_below BX Z
  clear b1 A B BX
  go_wp2_with (refine wpl_store S rfl rfl rfl rfl rfl ?_)
  go_ret
  exact ⟨rfl, _, ⟨_, _, _, HX⟩, GB⟩
set_option maxHeartbeats 4000000 in
theorem readField_long {w : World} {p : Nat} {x y z : Value} {Z : Nat → Prop} {most n due : Int} {part data : List UInt8} {fs : Int} {rest : List UInt8} {wr nx : Int} (H : ChAt w p x y z Z ⟨nx, most, n, due, part, data, fs, rest, wr⟩) (s : ByteArray) (hs : s.size ≤ 549755813888) (h0 : 0 < s.size) {g : Fi.Fd} (hp : parseF (ls s) = some g) (hf : fs = 16) :
    Calls Tryz.prog 80 #[.pointer (some ⟨p, 0, none⟩), .string s] w fun e w' => e = .returned (.int .i64 4) ∧ Post w w' p Z ⟨nx, most, n, due, part, data, fs, rest, wr⟩ := by
  have h1 := toList_ne s h0
  have h2 := toList_ne' s h0
  clear h0
  have pa : ∀ w, Calls Tryz.prog 99 #[.string s] w fun e w' => e = .returned (.tuple #[.agg (fdV (pF (ls s))), .int .i64 0]) ∧ Below w.heap.size w w' := fun w => by
    have h := parse_any s w (by omega)
    unfold ParsePost at h
    rw [(p_some hp).2] at h
    exact h
  clear hp
  generalize pF (ls s) = f at *
  go_enter Tryz.func80, Tryz.ntmps80
  go_wp2_with fail
  refine (pa _).mono ?_
  rintro e w1 ⟨rfl, b1⟩
  clear pa
  obtain ⟨X, S, A, B, _⟩ := fd_keep w1 f
  have BX := b1.trans (B.mono b1.size)
  have HX := H.old BX
  have GB : Goes w X Z Z := Goes.of_below BX Z
  clear b1 A B BX
  have f6 := HX.fz 6
  have d6 := HX.c6
  simp only at d6
  subst hf
  go_wp2_with (refine wpl_store S rfl rfl rfl rfl rfl ?_)
  go_ret
  exact ⟨rfl, _, ⟨_, _, _, HX⟩, GB⟩
set_option maxHeartbeats 4000000 in
theorem readField_one {w : World} {p : Nat} {x y z : Value} {Z : Nat → Prop} {most n due : Int} {part data : List UInt8} {fs : Int} {rest : List UInt8} {wr nx : Int} (H : ChAt w p x y z Z ⟨nx, most, n, due, part, data, fs, rest, wr⟩) (s : ByteArray) (hs : s.size ≤ 549755813888) (h0 : 0 < s.size) {g : Fi.Fd} (hp : parseF (ls s) = some g) (hf0 : 0 ≤ fs) (hf : fs < 16) :
    Calls Tryz.prog 80 #[.pointer (some ⟨p, 0, none⟩), .string s] w fun e w' => e = .returned (.int .i64 0) ∧ Post w w' p Z ⟨nx, most, n, due, part, data, fs + 1, rest, wr⟩ := by
  have h1 := toList_ne s h0
  have h2 := toList_ne' s h0
  clear h0
  have pa : ∀ w, Calls Tryz.prog 99 #[.string s] w fun e w' => e = .returned (.tuple #[.agg (fdV (pF (ls s))), .int .i64 0]) ∧ Below w.heap.size w w' := fun w => by
    have h := parse_any s w (by omega)
    unfold ParsePost at h
    rw [(p_some hp).2] at h
    exact h
  clear hp
  generalize pF (ls s) = f at *
  go_enter Tryz.func80, Tryz.ntmps80
  go_wp2_with fail
  refine (pa _).mono ?_
  rintro e w1 ⟨rfl, b1⟩
  clear pa
  obtain ⟨X, S, A, B, _⟩ := fd_keep w1 f
  have BX := b1.trans (B.mono b1.size)
  have HX := H.old BX
  have GB : Goes w X Z Z := Goes.of_below BX Z
  clear b1 A B BX
  have f6 := HX.fz 6
  have d6 := HX.c6
  simp only at d6
  have g6 : (fs == 16) = false := by rw [beq_eq_false_iff_ne]; omega
  obtain ⟨H4, G4⟩ := HX.num 6 (.int .i64 (fs + 1)) (c' := ⟨nx, most, n, due, part, data, fs + 1, rest, wr⟩) rfl rfl rfl rfl
  go_wp2_with (refine wpl_store S rfl rfl rfl rfl rfl ?_)
  go_ret
  exact ⟨rfl, _, ⟨_, _, _, H4⟩, GB.trans G4⟩
end Go.Proofs.YtbngfphiachnoaaGreatDoor.Ch
end

section
namespace Go.Proofs.YtbngfphiachnoaaGreatDoor.Ch
open Go.RowKit Go.PlainAid
open Hx Fi
set_option linter.unusedVariables false
set_option maxRecDepth 20000
set_option linter.unusedSimpArgs false

set_option maxHeartbeats 4000000 in
theorem readEnd_cr {w : World} {p : Nat} {x y z : Value} {Z : Nat → Prop} {most n due : Int} {part data : List UInt8} {fs : Int} {rest : List UInt8} {wr nx : Int} (H : ChAt w p x y z Z ⟨nx, most, n, due, [], data, fs, rest, wr⟩) (s : ByteArray) (hs : s.size ≤ 549755813888)  {r : List UInt8} (hs2 : ls s = 13 :: r) :
    Calls Tryz.prog 77 #[.pointer (some ⟨p, 0, none⟩), .string s] w fun e w' => e = .returned (.tuple #[.string (tx r), .int .i64 0]) ∧ Post w w' p Z ⟨nx, most, n, due, [13], data, fs, rest, wr⟩ := by
  have hz : s.size = r.length + 1 := by rw [← ls_len, hs2]; rfl
  have hlt : 0 < s.size := by omega
  have hb0 : bt s 0 = ((13 : UInt8).toNat : Int) := by
    obtain ⟨c, gc, ec, _⟩ := get_ls hlt
    rw [hs2] at gc
    rw [ec, Option.some.inj gc]
  have hg := get_bt s
  have eB : s.extract 1 s.size = tx r := ls_inj (by rw [ls_extract, ls_tx, hs2, List.take_of_length_le (by simp; omega)]; rfl)
  have EB := Lib.hid eB
  have i1 : (1 : Int) ≤ (s.size : Int) := by omega
  have i0 : (0 : Int) < (s.size : Int) := by omega
  obtain ⟨ox, kx, ex, _, _⟩ := H.px.form
  simp only [List.length_nil, List.length_cons, Nat.zero_add] at ex
  subst ex
  clear hs2 eB hz
  have hp := fun w => hasPre_one 13 w
  rw [show ((13 : UInt8) == 13) = true from rfl] at hp
  have ne : ((tx [13]).toList == [13, 10]) = false := by rw [ls_toList, ls_tx, beq_eq_false_iff_ne]; intro e; simp at e
  go_enter Tryz.func77, Tryz.ntmps77
  go_upto_region 1 with (fail)
  have H0 := H.drew
  have B0 : Goes w w.drew Z Z := Goes.of_below ((Below.refl _ _).drew) Z
  have d4 := H0.c4
  refine wp_region_any (by kernel_rfl) ?_
  change wpAny _ _ _ _ _ _ _ w.drew
  refine any_take 0 (.pointer (some ⟨p, 0, none⟩)) rfl (by kernel_rfl) (by kernel_rfl) (by kernel_rfl) (fun _ _ _ h => h) (Or.inl ⟨by rfl, fun x => by go_simp⟩) (fun K hK => ?_)
  go_simp
  refine hK _ _ ?_
  clear hK K
  refine any_take 1 (.pointer (some ⟨p, 0, none⟩)) rfl (by kernel_rfl) (by kernel_rfl) (by kernel_rfl) (fun _ _ _ h => h) (Or.inl ⟨by rfl, fun x => by go_simp⟩) (fun K hK => ?_)
  go_simp
  refine hK _ _ ?_
  clear hK K
  refine any_take 2 (.pointer (some ⟨p, 0, none⟩)) rfl (by kernel_rfl) (by kernel_rfl) (by kernel_rfl) (fun _ _ _ h => h) (Or.inl ⟨by rfl, fun x => by go_simp⟩) (fun K hK => ?_)
  go_simp
  refine hK _ _ ?_
  clear hK K
  refine any_take 3 (.pointer (some ⟨p, 4, none⟩)) rfl (by kernel_rfl) (by kernel_rfl) (by kernel_rfl) (fun _ _ _ h => h) (Or.inl ⟨by rfl, fun x => by go_simp⟩) (fun K hK => ?_)
  go_simp
  refine hK _ _ ?_
  clear hK K
  refine any_take 5 (.string s) rfl (by kernel_rfl) (by kernel_rfl) (by kernel_rfl) (fun _ _ _ h => h) (Or.inl ⟨by rfl, fun x => by go_simp⟩) (fun K hK => ?_)
  go_simp
  refine hK _ _ ?_
  clear hK K
  refine any_take 6 (.int .u8 (((13 : UInt8).toNat : Nat) : Int)) rfl (by kernel_rfl) (by kernel_rfl) (by kernel_rfl) (fun _ _ _ h => h) (Or.inl ⟨by rfl, fun x => by go_simp⟩) (fun K hK => ?_)
  go_simp
  refine hK _ _ ?_
  clear hK K
  refine any_two 4 7 (by kernel_rfl) (fun K hK => wpOp_in rfl rfl ?_) (fun K hK => wpOp_in rfl rfl ?_)
  · go_simp
    refine hK _ _ ?_
    clear hK K
    refine any_one 7 (by kernel_rfl) (fun K hK => wpOp_in rfl rfl ?_)
    go_simp
    refine hK _ _ ?_
    clear hK K
    have H1 := H0.old (w' := w.drew.alloc (.cells #[.int .u8 (((13 : UInt8).toNat : Nat) : Int)] 5)) ((Below.refl _ _).alloc (Nat.le_refl _) _)
    have B1 : Goes w (w.drew.alloc (.cells #[.int .u8 (((13 : UInt8).toNat : Nat) : Int)] 5)) Z Z := B0.trans (Goes.of_below ((Below.refl _ _).alloc (Nat.le_refl _) _) Z)
    have hB := Go.heap_alloc_new w.drew (.cells #[.int .u8 (((13 : UInt8).toNat : Nat) : Int)] 5)
    have d4 := H1.c4
    refine any_one 8 (by kernel_rfl) (fun K hK => wpOp_in rfl rfl ?_)
    refine wp_app1 H1.px (by simp) (B := w.heap.size) (b := 13) hB _ _ rfl rfl rfl ?_
    intro o4 m4 k4 w4 r4 g4 l4
    have hp4 := H1.st.same (g4.block p H1.st.lt fun e => row_ne H1.px H1.st e.symm rfl)
    have d4 := hp4.cell 4
    have q4 := hp4.frozen 4
    obtain ⟨H2, G2⟩ := H1.rowX g4 r4 l4
    clear hp4 r4 g4 l4
    refine hK _ _ ?_
    clear hK K
    refine any_take 9 (.pointer (some ⟨p, 0, none⟩)) rfl (by kernel_rfl) (by kernel_rfl) (by kernel_rfl) (fun _ _ _ h => h) (Or.inl ⟨by rfl, fun x => by go_simp⟩) (fun K hK => ?_)
    go_simp
    refine hK _ _ ?_
    clear hK K
    refine any_take 10 (.pointer (some ⟨p, 4, none⟩)) rfl (by kernel_rfl) (by kernel_rfl) (by kernel_rfl) (fun _ _ _ h => h) (Or.inl ⟨by rfl, fun x => by go_simp⟩) (fun K hK => ?_)
    go_simp
    refine hK _ _ ?_
    clear hK K
    refine any_one 11 (by kernel_rfl) (fun K hK => wpOp_in rfl rfl ?_)
    go_simp
    refine hK _ _ ?_
    clear hK K
    refine wpAny_done (by kernel_rfl) ?_ _
    generalize w4.setCell ⟨p, 4, none⟩ (.slice o4 m4 k4) = w5 at *
    generalize Zn Z (.slice o4 m4 k4) = Z1 at *
    have GA := B1.trans G2
    have H2b : ChAt w5 p (.slice o4 m4 k4) y z Z1 ⟨nx, most, n, due, [13], data, fs, rest, wr⟩ := H2
    clear G2 B1 H1 H0 B0 hB H2 d4
    have d4 := H2b.c4
    have f4 := H2b.fz 4
    have cv := H2b.px.text
    simp only at cv
    generalize tx [13] = P at *
    go_wp2_with fail
    refine (hp _).mono ?_
    rintro e w' ⟨rfl, rfl⟩
    clear hp
    go_wp2
    go_ret2
    exact ⟨by first | rfl | (rw [← EB.out]; rfl), _, ⟨_, _, _, H2b⟩, GA⟩
  · go_simp
    refine hK _ _ ?_
    clear hK K
    have H1 := H0.old (w' := w.drew.alloc (.cells #[.int .u8 (((13 : UInt8).toNat : Nat) : Int)] 5)) ((Below.refl _ _).alloc (Nat.le_refl _) _)
    have B1 : Goes w (w.drew.alloc (.cells #[.int .u8 (((13 : UInt8).toNat : Nat) : Int)] 5)) Z Z := B0.trans (Goes.of_below ((Below.refl _ _).alloc (Nat.le_refl _) _) Z)
    have hB := Go.heap_alloc_new w.drew (.cells #[.int .u8 (((13 : UInt8).toNat : Nat) : Int)] 5)
    have d4 := H1.c4
    change wpAny _ _ _ _ _ _ _ (w.drew.alloc (.cells #[.int .u8 (((13 : UInt8).toNat : Nat) : Int)] 5))
    generalize w.drew.alloc (.cells #[.int .u8 (((13 : UInt8).toNat : Nat) : Int)] 5) = w9 at H1 B1 hB d4 ⊢
    refine any_one 4 (by kernel_rfl) (fun K hK => wpOp_in rfl rfl ?_)
    go_simp
    refine hK _ _ ?_
    clear hK K
    refine any_one 8 (by kernel_rfl) (fun K hK => wpOp_in rfl rfl ?_)
    refine wp_app1 H1.px (by simp) (B := w.heap.size) (b := 13) hB _ _ rfl rfl rfl ?_
    intro o4 m4 k4 w4 r4 g4 l4
    have hp4 := H1.st.same (g4.block p H1.st.lt fun e => row_ne H1.px H1.st e.symm rfl)
    have d4 := hp4.cell 4
    have q4 := hp4.frozen 4
    obtain ⟨H2, G2⟩ := H1.rowX g4 r4 l4
    clear hp4 r4 g4 l4
    refine hK _ _ ?_
    clear hK K
    refine any_take 9 (.pointer (some ⟨p, 0, none⟩)) rfl (by kernel_rfl) (by kernel_rfl) (by kernel_rfl) (fun _ _ _ h => h) (Or.inl ⟨by rfl, fun x => by go_simp⟩) (fun K hK => ?_)
    go_simp
    refine hK _ _ ?_
    clear hK K
    refine any_take 10 (.pointer (some ⟨p, 4, none⟩)) rfl (by kernel_rfl) (by kernel_rfl) (by kernel_rfl) (fun _ _ _ h => h) (Or.inl ⟨by rfl, fun x => by go_simp⟩) (fun K hK => ?_)
    go_simp
    refine hK _ _ ?_
    clear hK K
    refine any_one 11 (by kernel_rfl) (fun K hK => wpOp_in rfl rfl ?_)
    go_simp
    refine hK _ _ ?_
    clear hK K
    refine wpAny_done (by kernel_rfl) ?_ _
    generalize w4.setCell ⟨p, 4, none⟩ (.slice o4 m4 k4) = w5 at *
    generalize Zn Z (.slice o4 m4 k4) = Z1 at *
    have GA := B1.trans G2
    have H2b : ChAt w5 p (.slice o4 m4 k4) y z Z1 ⟨nx, most, n, due, [13], data, fs, rest, wr⟩ := H2
    clear G2 B1 H1 H0 B0 hB H2 d4
    have d4 := H2b.c4
    have f4 := H2b.fz 4
    have cv := H2b.px.text
    simp only at cv
    generalize tx [13] = P at *
    go_wp2_with fail
    refine (hp _).mono ?_
    rintro e w' ⟨rfl, rfl⟩
    clear hp
    go_wp2
    go_ret2
    exact ⟨by first | rfl | (rw [← EB.out]; rfl), _, ⟨_, _, _, H2b⟩, GA⟩
set_option maxHeartbeats 4000000 in
theorem readEnd_lf {w : World} {p : Nat} {x y z : Value} {Z : Nat → Prop} {most n due : Int} {part data : List UInt8} {fs : Int} {rest : List UInt8} {wr nx : Int} (H : ChAt w p x y z Z ⟨nx, most, n, due, [13], data, fs, rest, wr⟩) (s : ByteArray) (hs : s.size ≤ 549755813888)  {r : List UInt8} (hs2 : ls s = 10 :: r) :
    Calls Tryz.prog 77 #[.pointer (some ⟨p, 0, none⟩), .string s] w fun e w' => e = .returned (.tuple #[.string (tx r), .int .i64 0]) ∧ Post w w' p Z ⟨0, most, n, due, [], data, fs, rest, wr⟩ := by
  have hz : s.size = r.length + 1 := by rw [← ls_len, hs2]; rfl
  have hlt : 0 < s.size := by omega
  have hb0 : bt s 0 = ((10 : UInt8).toNat : Int) := by
    obtain ⟨c, gc, ec, _⟩ := get_ls hlt
    rw [hs2] at gc
    rw [ec, Option.some.inj gc]
  have hg := get_bt s
  have eB : s.extract 1 s.size = tx r := ls_inj (by rw [ls_extract, ls_tx, hs2, List.take_of_length_le (by simp; omega)]; rfl)
  have EB := Lib.hid eB
  have i1 : (1 : Int) ≤ (s.size : Int) := by omega
  have i0 : (0 : Int) < (s.size : Int) := by omega
  obtain ⟨ox, kx, ex, _, _⟩ := H.px.form
  simp only [List.length_nil, List.length_cons, Nat.zero_add] at ex
  subst ex
  clear hs2 eB hz
  have ne : ((tx [13, 10]).toList == [13, 10]) = true := by rw [ls_toList, ls_tx]; rfl
  go_enter Tryz.func77, Tryz.ntmps77
  go_upto_region 1 with (fail)
  have H0 := H.drew
  have B0 : Goes w w.drew Z Z := Goes.of_below ((Below.refl _ _).drew) Z
  have d4 := H0.c4
  refine wp_region_any (by kernel_rfl) ?_
  change wpAny _ _ _ _ _ _ _ w.drew
  refine any_take 0 (.pointer (some ⟨p, 0, none⟩)) rfl (by kernel_rfl) (by kernel_rfl) (by kernel_rfl) (fun _ _ _ h => h) (Or.inl ⟨by rfl, fun x => by go_simp⟩) (fun K hK => ?_)
  go_simp
  refine hK _ _ ?_
  clear hK K
  refine any_take 1 (.pointer (some ⟨p, 0, none⟩)) rfl (by kernel_rfl) (by kernel_rfl) (by kernel_rfl) (fun _ _ _ h => h) (Or.inl ⟨by rfl, fun x => by go_simp⟩) (fun K hK => ?_)
  go_simp
  refine hK _ _ ?_
  clear hK K
  refine any_take 2 (.pointer (some ⟨p, 0, none⟩)) rfl (by kernel_rfl) (by kernel_rfl) (by kernel_rfl) (fun _ _ _ h => h) (Or.inl ⟨by rfl, fun x => by go_simp⟩) (fun K hK => ?_)
  go_simp
  refine hK _ _ ?_
  clear hK K
  refine any_take 3 (.pointer (some ⟨p, 4, none⟩)) rfl (by kernel_rfl) (by kernel_rfl) (by kernel_rfl) (fun _ _ _ h => h) (Or.inl ⟨by rfl, fun x => by go_simp⟩) (fun K hK => ?_)
  go_simp
  refine hK _ _ ?_
  clear hK K
  refine any_take 5 (.string s) rfl (by kernel_rfl) (by kernel_rfl) (by kernel_rfl) (fun _ _ _ h => h) (Or.inl ⟨by rfl, fun x => by go_simp⟩) (fun K hK => ?_)
  go_simp
  refine hK _ _ ?_
  clear hK K
  refine any_take 6 (.int .u8 (((10 : UInt8).toNat : Nat) : Int)) rfl (by kernel_rfl) (by kernel_rfl) (by kernel_rfl) (fun _ _ _ h => h) (Or.inl ⟨by rfl, fun x => by go_simp⟩) (fun K hK => ?_)
  go_simp
  refine hK _ _ ?_
  clear hK K
  refine any_two 4 7 (by kernel_rfl) (fun K hK => wpOp_in rfl rfl ?_) (fun K hK => wpOp_in rfl rfl ?_)
  · go_simp
    refine hK _ _ ?_
    clear hK K
    refine any_one 7 (by kernel_rfl) (fun K hK => wpOp_in rfl rfl ?_)
    go_simp
    refine hK _ _ ?_
    clear hK K
    have H1 := H0.old (w' := w.drew.alloc (.cells #[.int .u8 (((10 : UInt8).toNat : Nat) : Int)] 5)) ((Below.refl _ _).alloc (Nat.le_refl _) _)
    have B1 : Goes w (w.drew.alloc (.cells #[.int .u8 (((10 : UInt8).toNat : Nat) : Int)] 5)) Z Z := B0.trans (Goes.of_below ((Below.refl _ _).alloc (Nat.le_refl _) _) Z)
    have hB := Go.heap_alloc_new w.drew (.cells #[.int .u8 (((10 : UInt8).toNat : Nat) : Int)] 5)
    have d4 := H1.c4
    refine any_one 8 (by kernel_rfl) (fun K hK => wpOp_in rfl rfl ?_)
    refine wp_app1 H1.px (by simp) (B := w.heap.size) (b := 10) hB _ _ rfl rfl rfl ?_
    intro o4 m4 k4 w4 r4 g4 l4
    have hp4 := H1.st.same (g4.block p H1.st.lt fun e => row_ne H1.px H1.st e.symm rfl)
    have d4 := hp4.cell 4
    have q4 := hp4.frozen 4
    obtain ⟨H2, G2⟩ := H1.rowX g4 r4 l4
    clear hp4 r4 g4 l4
    refine hK _ _ ?_
    clear hK K
    refine any_take 9 (.pointer (some ⟨p, 0, none⟩)) rfl (by kernel_rfl) (by kernel_rfl) (by kernel_rfl) (fun _ _ _ h => h) (Or.inl ⟨by rfl, fun x => by go_simp⟩) (fun K hK => ?_)
    go_simp
    refine hK _ _ ?_
    clear hK K
    refine any_take 10 (.pointer (some ⟨p, 4, none⟩)) rfl (by kernel_rfl) (by kernel_rfl) (by kernel_rfl) (fun _ _ _ h => h) (Or.inl ⟨by rfl, fun x => by go_simp⟩) (fun K hK => ?_)
    go_simp
    refine hK _ _ ?_
    clear hK K
    refine any_one 11 (by kernel_rfl) (fun K hK => wpOp_in rfl rfl ?_)
    go_simp
    refine hK _ _ ?_
    clear hK K
    refine wpAny_done (by kernel_rfl) ?_ _
    generalize w4.setCell ⟨p, 4, none⟩ (.slice o4 m4 k4) = w5 at *
    generalize Zn Z (.slice o4 m4 k4) = Z1 at *
    have GA := B1.trans G2
    have H2b : ChAt w5 p (.slice o4 m4 k4) y z Z1 ⟨nx, most, n, due, [13, 10], data, fs, rest, wr⟩ := H2
    clear G2 B1 H1 H0 B0 hB H2 d4
    have d4 := H2b.c4
    have f4 := H2b.fz 4
    have cv := H2b.px.text
    simp only at cv
    obtain ⟨H3, G3⟩ := H2b.cutX
    simp only at H3
    generalize tx [13, 10] = P at *
    go_upto_region 5 with (fail)
    generalize w5.setCell ⟨p, 4, none⟩ (.slice o4 0 k4) = w6 at H3 G3 ⊢
    have d0 := H3.c0
    have f0 := H3.fz 0
    simp only at d0
    obtain ⟨H4, G4⟩ := H3.num 0 (.int .i64 0) (c' := ⟨0, most, n, due, [], data, fs, rest, wr⟩) rfl rfl rfl rfl
    go_wp2
    go_ret2
    exact ⟨by first | rfl | (rw [← EB.out]; rfl), _, ⟨_, _, _, H4⟩, GA.trans (G3.trans G4)⟩
  · go_simp
    refine hK _ _ ?_
    clear hK K
    have H1 := H0.old (w' := w.drew.alloc (.cells #[.int .u8 (((10 : UInt8).toNat : Nat) : Int)] 5)) ((Below.refl _ _).alloc (Nat.le_refl _) _)
    have B1 : Goes w (w.drew.alloc (.cells #[.int .u8 (((10 : UInt8).toNat : Nat) : Int)] 5)) Z Z := B0.trans (Goes.of_below ((Below.refl _ _).alloc (Nat.le_refl _) _) Z)
    have hB := Go.heap_alloc_new w.drew (.cells #[.int .u8 (((10 : UInt8).toNat : Nat) : Int)] 5)
    have d4 := H1.c4
    change wpAny _ _ _ _ _ _ _ (w.drew.alloc (.cells #[.int .u8 (((10 : UInt8).toNat : Nat) : Int)] 5))
    generalize w.drew.alloc (.cells #[.int .u8 (((10 : UInt8).toNat : Nat) : Int)] 5) = w9 at H1 B1 hB d4 ⊢
    refine any_one 4 (by kernel_rfl) (fun K hK => wpOp_in rfl rfl ?_)
    go_simp
    refine hK _ _ ?_
    clear hK K
    refine any_one 8 (by kernel_rfl) (fun K hK => wpOp_in rfl rfl ?_)
    refine wp_app1 H1.px (by simp) (B := w.heap.size) (b := 10) hB _ _ rfl rfl rfl ?_
    intro o4 m4 k4 w4 r4 g4 l4
    have hp4 := H1.st.same (g4.block p H1.st.lt fun e => row_ne H1.px H1.st e.symm rfl)
    have d4 := hp4.cell 4
    have q4 := hp4.frozen 4
    obtain ⟨H2, G2⟩ := H1.rowX g4 r4 l4
    clear hp4 r4 g4 l4
    refine hK _ _ ?_
    clear hK K
    refine any_take 9 (.pointer (some ⟨p, 0, none⟩)) rfl (by kernel_rfl) (by kernel_rfl) (by kernel_rfl) (fun _ _ _ h => h) (Or.inl ⟨by rfl, fun x => by go_simp⟩) (fun K hK => ?_)
    go_simp
    refine hK _ _ ?_
    clear hK K
    refine any_take 10 (.pointer (some ⟨p, 4, none⟩)) rfl (by kernel_rfl) (by kernel_rfl) (by kernel_rfl) (fun _ _ _ h => h) (Or.inl ⟨by rfl, fun x => by go_simp⟩) (fun K hK => ?_)
    go_simp
    refine hK _ _ ?_
    clear hK K
    refine any_one 11 (by kernel_rfl) (fun K hK => wpOp_in rfl rfl ?_)
    go_simp
    refine hK _ _ ?_
    clear hK K
    refine wpAny_done (by kernel_rfl) ?_ _
    generalize w4.setCell ⟨p, 4, none⟩ (.slice o4 m4 k4) = w5 at *
    generalize Zn Z (.slice o4 m4 k4) = Z1 at *
    have GA := B1.trans G2
    have H2b : ChAt w5 p (.slice o4 m4 k4) y z Z1 ⟨nx, most, n, due, [13, 10], data, fs, rest, wr⟩ := H2
    clear G2 B1 H1 H0 B0 hB H2 d4
    have d4 := H2b.c4
    have f4 := H2b.fz 4
    have cv := H2b.px.text
    simp only at cv
    obtain ⟨H3, G3⟩ := H2b.cutX
    simp only at H3
    generalize tx [13, 10] = P at *
    go_upto_region 5 with (fail)
    generalize w5.setCell ⟨p, 4, none⟩ (.slice o4 0 k4) = w6 at H3 G3 ⊢
    have d0 := H3.c0
    have f0 := H3.fz 0
    simp only at d0
    obtain ⟨H4, G4⟩ := H3.num 0 (.int .i64 0) (c' := ⟨0, most, n, due, [], data, fs, rest, wr⟩) rfl rfl rfl rfl
    go_wp2
    go_ret2
    exact ⟨by first | rfl | (rw [← EB.out]; rfl), _, ⟨_, _, _, H4⟩, GA.trans (G3.trans G4)⟩
set_option maxHeartbeats 4000000 in
theorem readEnd_bad1 {w : World} {p : Nat} {x y z : Value} {Z : Nat → Prop} {most n due : Int} {part data : List UInt8} {fs : Int} {rest : List UInt8} {wr nx : Int} (H : ChAt w p x y z Z ⟨nx, most, n, due, [], data, fs, rest, wr⟩) (s : ByteArray) (hs : s.size ≤ 549755813888) {b : UInt8} (hb : b ≠ 13) {r : List UInt8} (hs2 : ls s = b :: r) :
    Calls Tryz.prog 77 #[.pointer (some ⟨p, 0, none⟩), .string s] w fun e w' => e = .returned (.tuple #[.string ⟨#[]⟩, .int .i64 3]) ∧ Post w w' p Z ⟨nx, most, n, due, [b], data, fs, rest, wr⟩ := by
  have hz : s.size = r.length + 1 := by rw [← ls_len, hs2]; rfl
  have hlt : 0 < s.size := by omega
  have hb0 : bt s 0 = ((b : UInt8).toNat : Int) := by
    obtain ⟨c, gc, ec, _⟩ := get_ls hlt
    rw [hs2] at gc
    rw [ec, Option.some.inj gc]
  have hg := get_bt s
  have eB : s.extract 1 s.size = tx r := ls_inj (by rw [ls_extract, ls_tx, hs2, List.take_of_length_le (by simp; omega)]; rfl)
  have EB := Lib.hid eB
  have i1 : (1 : Int) ≤ (s.size : Int) := by omega
  have i0 : (0 : Int) < (s.size : Int) := by omega
  obtain ⟨ox, kx, ex, _, _⟩ := H.px.form
  simp only [List.length_nil, List.length_cons, Nat.zero_add] at ex
  subst ex
  clear hs2 eB hz
  have hp := fun w => hasPre_one b w
  rw [show (b == 13) = false from beq_eq_false_iff_ne.2 hb] at hp
  have ne : ((tx [b]).toList == [13, 10]) = false := by rw [ls_toList, ls_tx, beq_eq_false_iff_ne]; intro e; simp at e
  clear hb
  go_enter Tryz.func77, Tryz.ntmps77
  go_upto_region 1 with (fail)
  have H0 := H.drew
  have B0 : Goes w w.drew Z Z := Goes.of_below ((Below.refl _ _).drew) Z
  have d4 := H0.c4
  refine wp_region_any (by kernel_rfl) ?_
  change wpAny _ _ _ _ _ _ _ w.drew
  refine any_take 0 (.pointer (some ⟨p, 0, none⟩)) rfl (by kernel_rfl) (by kernel_rfl) (by kernel_rfl) (fun _ _ _ h => h) (Or.inl ⟨by rfl, fun x => by go_simp⟩) (fun K hK => ?_)
  go_simp
  refine hK _ _ ?_
  clear hK K
  refine any_take 1 (.pointer (some ⟨p, 0, none⟩)) rfl (by kernel_rfl) (by kernel_rfl) (by kernel_rfl) (fun _ _ _ h => h) (Or.inl ⟨by rfl, fun x => by go_simp⟩) (fun K hK => ?_)
  go_simp
  refine hK _ _ ?_
  clear hK K
  refine any_take 2 (.pointer (some ⟨p, 0, none⟩)) rfl (by kernel_rfl) (by kernel_rfl) (by kernel_rfl) (fun _ _ _ h => h) (Or.inl ⟨by rfl, fun x => by go_simp⟩) (fun K hK => ?_)
  go_simp
  refine hK _ _ ?_
  clear hK K
  refine any_take 3 (.pointer (some ⟨p, 4, none⟩)) rfl (by kernel_rfl) (by kernel_rfl) (by kernel_rfl) (fun _ _ _ h => h) (Or.inl ⟨by rfl, fun x => by go_simp⟩) (fun K hK => ?_)
  go_simp
  refine hK _ _ ?_
  clear hK K
  refine any_take 5 (.string s) rfl (by kernel_rfl) (by kernel_rfl) (by kernel_rfl) (fun _ _ _ h => h) (Or.inl ⟨by rfl, fun x => by go_simp⟩) (fun K hK => ?_)
  go_simp
  refine hK _ _ ?_
  clear hK K
  refine any_take 6 (.int .u8 (((b : UInt8).toNat : Nat) : Int)) rfl (by kernel_rfl) (by kernel_rfl) (by kernel_rfl) (fun _ _ _ h => h) (Or.inl ⟨by rfl, fun x => by go_simp⟩) (fun K hK => ?_)
  go_simp
  refine hK _ _ ?_
  clear hK K
  refine any_two 4 7 (by kernel_rfl) (fun K hK => wpOp_in rfl rfl ?_) (fun K hK => wpOp_in rfl rfl ?_)
  · go_simp
    refine hK _ _ ?_
    clear hK K
    refine any_one 7 (by kernel_rfl) (fun K hK => wpOp_in rfl rfl ?_)
    go_simp
    refine hK _ _ ?_
    clear hK K
    have H1 := H0.old (w' := w.drew.alloc (.cells #[.int .u8 (((b : UInt8).toNat : Nat) : Int)] 5)) ((Below.refl _ _).alloc (Nat.le_refl _) _)
    have B1 : Goes w (w.drew.alloc (.cells #[.int .u8 (((b : UInt8).toNat : Nat) : Int)] 5)) Z Z := B0.trans (Goes.of_below ((Below.refl _ _).alloc (Nat.le_refl _) _) Z)
    have hB := Go.heap_alloc_new w.drew (.cells #[.int .u8 (((b : UInt8).toNat : Nat) : Int)] 5)
    have d4 := H1.c4
    refine any_one 8 (by kernel_rfl) (fun K hK => wpOp_in rfl rfl ?_)
    refine wp_app1 H1.px (by simp) (B := w.heap.size) (b := b) hB _ _ rfl rfl rfl ?_
    intro o4 m4 k4 w4 r4 g4 l4
    have hp4 := H1.st.same (g4.block p H1.st.lt fun e => row_ne H1.px H1.st e.symm rfl)
    have d4 := hp4.cell 4
    have q4 := hp4.frozen 4
    obtain ⟨H2, G2⟩ := H1.rowX g4 r4 l4
    clear hp4 r4 g4 l4
    refine hK _ _ ?_
    clear hK K
    refine any_take 9 (.pointer (some ⟨p, 0, none⟩)) rfl (by kernel_rfl) (by kernel_rfl) (by kernel_rfl) (fun _ _ _ h => h) (Or.inl ⟨by rfl, fun x => by go_simp⟩) (fun K hK => ?_)
    go_simp
    refine hK _ _ ?_
    clear hK K
    refine any_take 10 (.pointer (some ⟨p, 4, none⟩)) rfl (by kernel_rfl) (by kernel_rfl) (by kernel_rfl) (fun _ _ _ h => h) (Or.inl ⟨by rfl, fun x => by go_simp⟩) (fun K hK => ?_)
    go_simp
    refine hK _ _ ?_
    clear hK K
    refine any_one 11 (by kernel_rfl) (fun K hK => wpOp_in rfl rfl ?_)
    go_simp
    refine hK _ _ ?_
    clear hK K
    refine wpAny_done (by kernel_rfl) ?_ _
    generalize w4.setCell ⟨p, 4, none⟩ (.slice o4 m4 k4) = w5 at *
    generalize Zn Z (.slice o4 m4 k4) = Z1 at *
    have GA := B1.trans G2
    have H2b : ChAt w5 p (.slice o4 m4 k4) y z Z1 ⟨nx, most, n, due, [b], data, fs, rest, wr⟩ := H2
    clear G2 B1 H1 H0 B0 hB H2 d4
    have d4 := H2b.c4
    have f4 := H2b.fz 4
    have cv := H2b.px.text
    simp only at cv
    generalize tx [b] = P at *
    go_wp2_with fail
    refine (hp _).mono ?_
    rintro e w' ⟨rfl, rfl⟩
    clear hp
    go_wp2
    go_ret2
    exact ⟨by first | rfl | (rw [← EB.out]; rfl), _, ⟨_, _, _, H2b⟩, GA⟩
  · go_simp
    refine hK _ _ ?_
    clear hK K
    have H1 := H0.old (w' := w.drew.alloc (.cells #[.int .u8 (((b : UInt8).toNat : Nat) : Int)] 5)) ((Below.refl _ _).alloc (Nat.le_refl _) _)
    have B1 : Goes w (w.drew.alloc (.cells #[.int .u8 (((b : UInt8).toNat : Nat) : Int)] 5)) Z Z := B0.trans (Goes.of_below ((Below.refl _ _).alloc (Nat.le_refl _) _) Z)
    have hB := Go.heap_alloc_new w.drew (.cells #[.int .u8 (((b : UInt8).toNat : Nat) : Int)] 5)
    have d4 := H1.c4
    change wpAny _ _ _ _ _ _ _ (w.drew.alloc (.cells #[.int .u8 (((b : UInt8).toNat : Nat) : Int)] 5))
    generalize w.drew.alloc (.cells #[.int .u8 (((b : UInt8).toNat : Nat) : Int)] 5) = w9 at H1 B1 hB d4 ⊢
    refine any_one 4 (by kernel_rfl) (fun K hK => wpOp_in rfl rfl ?_)
    go_simp
    refine hK _ _ ?_
    clear hK K
    refine any_one 8 (by kernel_rfl) (fun K hK => wpOp_in rfl rfl ?_)
    refine wp_app1 H1.px (by simp) (B := w.heap.size) (b := b) hB _ _ rfl rfl rfl ?_
    intro o4 m4 k4 w4 r4 g4 l4
    have hp4 := H1.st.same (g4.block p H1.st.lt fun e => row_ne H1.px H1.st e.symm rfl)
    have d4 := hp4.cell 4
    have q4 := hp4.frozen 4
    obtain ⟨H2, G2⟩ := H1.rowX g4 r4 l4
    clear hp4 r4 g4 l4
    refine hK _ _ ?_
    clear hK K
    refine any_take 9 (.pointer (some ⟨p, 0, none⟩)) rfl (by kernel_rfl) (by kernel_rfl) (by kernel_rfl) (fun _ _ _ h => h) (Or.inl ⟨by rfl, fun x => by go_simp⟩) (fun K hK => ?_)
    go_simp
    refine hK _ _ ?_
    clear hK K
    refine any_take 10 (.pointer (some ⟨p, 4, none⟩)) rfl (by kernel_rfl) (by kernel_rfl) (by kernel_rfl) (fun _ _ _ h => h) (Or.inl ⟨by rfl, fun x => by go_simp⟩) (fun K hK => ?_)
    go_simp
    refine hK _ _ ?_
    clear hK K
    refine any_one 11 (by kernel_rfl) (fun K hK => wpOp_in rfl rfl ?_)
    go_simp
    refine hK _ _ ?_
    clear hK K
    refine wpAny_done (by kernel_rfl) ?_ _
    generalize w4.setCell ⟨p, 4, none⟩ (.slice o4 m4 k4) = w5 at *
    generalize Zn Z (.slice o4 m4 k4) = Z1 at *
    have GA := B1.trans G2
    have H2b : ChAt w5 p (.slice o4 m4 k4) y z Z1 ⟨nx, most, n, due, [b], data, fs, rest, wr⟩ := H2
    clear G2 B1 H1 H0 B0 hB H2 d4
    have d4 := H2b.c4
    have f4 := H2b.fz 4
    have cv := H2b.px.text
    simp only at cv
    generalize tx [b] = P at *
    go_wp2_with fail
    refine (hp _).mono ?_
    rintro e w' ⟨rfl, rfl⟩
    clear hp
    go_wp2
    go_ret2
    exact ⟨by first | rfl | (rw [← EB.out]; rfl), _, ⟨_, _, _, H2b⟩, GA⟩
set_option maxHeartbeats 4000000 in
theorem readEnd_bad2 {w : World} {p : Nat} {x y z : Value} {Z : Nat → Prop} {most n due : Int} {part data : List UInt8} {fs : Int} {rest : List UInt8} {wr nx : Int} (H : ChAt w p x y z Z ⟨nx, most, n, due, [13], data, fs, rest, wr⟩) (s : ByteArray) (hs : s.size ≤ 549755813888) {b : UInt8} (hb : b ≠ 10) {r : List UInt8} (hs2 : ls s = b :: r) :
    Calls Tryz.prog 77 #[.pointer (some ⟨p, 0, none⟩), .string s] w fun e w' => e = .returned (.tuple #[.string ⟨#[]⟩, .int .i64 3]) ∧ Post w w' p Z ⟨nx, most, n, due, [13, b], data, fs, rest, wr⟩ := by
  have hz : s.size = r.length + 1 := by rw [← ls_len, hs2]; rfl
  have hlt : 0 < s.size := by omega
  have hb0 : bt s 0 = ((b : UInt8).toNat : Int) := by
    obtain ⟨c, gc, ec, _⟩ := get_ls hlt
    rw [hs2] at gc
    rw [ec, Option.some.inj gc]
  have hg := get_bt s
  have eB : s.extract 1 s.size = tx r := ls_inj (by rw [ls_extract, ls_tx, hs2, List.take_of_length_le (by simp; omega)]; rfl)
  have EB := Lib.hid eB
  have i1 : (1 : Int) ≤ (s.size : Int) := by omega
  have i0 : (0 : Int) < (s.size : Int) := by omega
  obtain ⟨ox, kx, ex, _, _⟩ := H.px.form
  simp only [List.length_nil, List.length_cons, Nat.zero_add] at ex
  subst ex
  clear hs2 eB hz
  have hp := fun w => hasPre_two b hb w
  have ne : ((tx [13, b]).toList == [13, 10]) = false := by rw [ls_toList, ls_tx, beq_eq_false_iff_ne]; intro e; simp at e; exact hb e
  clear hb
  go_enter Tryz.func77, Tryz.ntmps77
  go_upto_region 1 with (fail)
  have H0 := H.drew
  have B0 : Goes w w.drew Z Z := Goes.of_below ((Below.refl _ _).drew) Z
  have d4 := H0.c4
  refine wp_region_any (by kernel_rfl) ?_
  change wpAny _ _ _ _ _ _ _ w.drew
  refine any_take 0 (.pointer (some ⟨p, 0, none⟩)) rfl (by kernel_rfl) (by kernel_rfl) (by kernel_rfl) (fun _ _ _ h => h) (Or.inl ⟨by rfl, fun x => by go_simp⟩) (fun K hK => ?_)
  go_simp
  refine hK _ _ ?_
  clear hK K
  refine any_take 1 (.pointer (some ⟨p, 0, none⟩)) rfl (by kernel_rfl) (by kernel_rfl) (by kernel_rfl) (fun _ _ _ h => h) (Or.inl ⟨by rfl, fun x => by go_simp⟩) (fun K hK => ?_)
  go_simp
  refine hK _ _ ?_
  clear hK K
  refine any_take 2 (.pointer (some ⟨p, 0, none⟩)) rfl (by kernel_rfl) (by kernel_rfl) (by kernel_rfl) (fun _ _ _ h => h) (Or.inl ⟨by rfl, fun x => by go_simp⟩) (fun K hK => ?_)
  go_simp
  refine hK _ _ ?_
  clear hK K
  refine any_take 3 (.pointer (some ⟨p, 4, none⟩)) rfl (by kernel_rfl) (by kernel_rfl) (by kernel_rfl) (fun _ _ _ h => h) (Or.inl ⟨by rfl, fun x => by go_simp⟩) (fun K hK => ?_)
  go_simp
  refine hK _ _ ?_
  clear hK K
  refine any_take 5 (.string s) rfl (by kernel_rfl) (by kernel_rfl) (by kernel_rfl) (fun _ _ _ h => h) (Or.inl ⟨by rfl, fun x => by go_simp⟩) (fun K hK => ?_)
  go_simp
  refine hK _ _ ?_
  clear hK K
  refine any_take 6 (.int .u8 (((b : UInt8).toNat : Nat) : Int)) rfl (by kernel_rfl) (by kernel_rfl) (by kernel_rfl) (fun _ _ _ h => h) (Or.inl ⟨by rfl, fun x => by go_simp⟩) (fun K hK => ?_)
  go_simp
  refine hK _ _ ?_
  clear hK K
  refine any_two 4 7 (by kernel_rfl) (fun K hK => wpOp_in rfl rfl ?_) (fun K hK => wpOp_in rfl rfl ?_)
  · go_simp
    refine hK _ _ ?_
    clear hK K
    refine any_one 7 (by kernel_rfl) (fun K hK => wpOp_in rfl rfl ?_)
    go_simp
    refine hK _ _ ?_
    clear hK K
    have H1 := H0.old (w' := w.drew.alloc (.cells #[.int .u8 (((b : UInt8).toNat : Nat) : Int)] 5)) ((Below.refl _ _).alloc (Nat.le_refl _) _)
    have B1 : Goes w (w.drew.alloc (.cells #[.int .u8 (((b : UInt8).toNat : Nat) : Int)] 5)) Z Z := B0.trans (Goes.of_below ((Below.refl _ _).alloc (Nat.le_refl _) _) Z)
    have hB := Go.heap_alloc_new w.drew (.cells #[.int .u8 (((b : UInt8).toNat : Nat) : Int)] 5)
    have d4 := H1.c4
    refine any_one 8 (by kernel_rfl) (fun K hK => wpOp_in rfl rfl ?_)
    refine wp_app1 H1.px (by simp) (B := w.heap.size) (b := b) hB _ _ rfl rfl rfl ?_
    intro o4 m4 k4 w4 r4 g4 l4
    have hp4 := H1.st.same (g4.block p H1.st.lt fun e => row_ne H1.px H1.st e.symm rfl)
    have d4 := hp4.cell 4
    have q4 := hp4.frozen 4
    obtain ⟨H2, G2⟩ := H1.rowX g4 r4 l4
    clear hp4 r4 g4 l4
    refine hK _ _ ?_
    clear hK K
    refine any_take 9 (.pointer (some ⟨p, 0, none⟩)) rfl (by kernel_rfl) (by kernel_rfl) (by kernel_rfl) (fun _ _ _ h => h) (Or.inl ⟨by rfl, fun x => by go_simp⟩) (fun K hK => ?_)
    go_simp
    refine hK _ _ ?_
    clear hK K
    refine any_take 10 (.pointer (some ⟨p, 4, none⟩)) rfl (by kernel_rfl) (by kernel_rfl) (by kernel_rfl) (fun _ _ _ h => h) (Or.inl ⟨by rfl, fun x => by go_simp⟩) (fun K hK => ?_)
    go_simp
    refine hK _ _ ?_
    clear hK K
    refine any_one 11 (by kernel_rfl) (fun K hK => wpOp_in rfl rfl ?_)
    go_simp
    refine hK _ _ ?_
    clear hK K
    refine wpAny_done (by kernel_rfl) ?_ _
    generalize w4.setCell ⟨p, 4, none⟩ (.slice o4 m4 k4) = w5 at *
    generalize Zn Z (.slice o4 m4 k4) = Z1 at *
    have GA := B1.trans G2
    have H2b : ChAt w5 p (.slice o4 m4 k4) y z Z1 ⟨nx, most, n, due, [13, b], data, fs, rest, wr⟩ := H2
    clear G2 B1 H1 H0 B0 hB H2 d4
    have d4 := H2b.c4
    have f4 := H2b.fz 4
    have cv := H2b.px.text
    simp only at cv
    generalize tx [13, b] = P at *
    go_wp2_with fail
    refine (hp _).mono ?_
    rintro e w' ⟨rfl, rfl⟩
    clear hp
    go_wp2
    go_ret2
    exact ⟨by first | rfl | (rw [← EB.out]; rfl), _, ⟨_, _, _, H2b⟩, GA⟩
  · go_simp
    refine hK _ _ ?_
    clear hK K
    have H1 := H0.old (w' := w.drew.alloc (.cells #[.int .u8 (((b : UInt8).toNat : Nat) : Int)] 5)) ((Below.refl _ _).alloc (Nat.le_refl _) _)
    have B1 : Goes w (w.drew.alloc (.cells #[.int .u8 (((b : UInt8).toNat : Nat) : Int)] 5)) Z Z := B0.trans (Goes.of_below ((Below.refl _ _).alloc (Nat.le_refl _) _) Z)
    have hB := Go.heap_alloc_new w.drew (.cells #[.int .u8 (((b : UInt8).toNat : Nat) : Int)] 5)
    have d4 := H1.c4
    change wpAny _ _ _ _ _ _ _ (w.drew.alloc (.cells #[.int .u8 (((b : UInt8).toNat : Nat) : Int)] 5))
    generalize w.drew.alloc (.cells #[.int .u8 (((b : UInt8).toNat : Nat) : Int)] 5) = w9 at H1 B1 hB d4 ⊢
    refine any_one 4 (by kernel_rfl) (fun K hK => wpOp_in rfl rfl ?_)
    go_simp
    refine hK _ _ ?_
    clear hK K
    refine any_one 8 (by kernel_rfl) (fun K hK => wpOp_in rfl rfl ?_)
    refine wp_app1 H1.px (by simp) (B := w.heap.size) (b := b) hB _ _ rfl rfl rfl ?_
    intro o4 m4 k4 w4 r4 g4 l4
    have hp4 := H1.st.same (g4.block p H1.st.lt fun e => row_ne H1.px H1.st e.symm rfl)
    have d4 := hp4.cell 4
    have q4 := hp4.frozen 4
    obtain ⟨H2, G2⟩ := H1.rowX g4 r4 l4
    clear hp4 r4 g4 l4
    refine hK _ _ ?_
    clear hK K
    refine any_take 9 (.pointer (some ⟨p, 0, none⟩)) rfl (by kernel_rfl) (by kernel_rfl) (by kernel_rfl) (fun _ _ _ h => h) (Or.inl ⟨by rfl, fun x => by go_simp⟩) (fun K hK => ?_)
    go_simp
    refine hK _ _ ?_
    clear hK K
    refine any_take 10 (.pointer (some ⟨p, 4, none⟩)) rfl (by kernel_rfl) (by kernel_rfl) (by kernel_rfl) (fun _ _ _ h => h) (Or.inl ⟨by rfl, fun x => by go_simp⟩) (fun K hK => ?_)
    go_simp
    refine hK _ _ ?_
    clear hK K
    refine any_one 11 (by kernel_rfl) (fun K hK => wpOp_in rfl rfl ?_)
    go_simp
    refine hK _ _ ?_
    clear hK K
    refine wpAny_done (by kernel_rfl) ?_ _
    generalize w4.setCell ⟨p, 4, none⟩ (.slice o4 m4 k4) = w5 at *
    generalize Zn Z (.slice o4 m4 k4) = Z1 at *
    have GA := B1.trans G2
    have H2b : ChAt w5 p (.slice o4 m4 k4) y z Z1 ⟨nx, most, n, due, [13, b], data, fs, rest, wr⟩ := H2
    clear G2 B1 H1 H0 B0 hB H2 d4
    have d4 := H2b.c4
    have f4 := H2b.fz 4
    have cv := H2b.px.text
    simp only at cv
    generalize tx [13, b] = P at *
    go_wp2_with fail
    refine (hp _).mono ?_
    rintro e w' ⟨rfl, rfl⟩
    clear hp
    go_wp2
    go_ret2
    exact ⟨by first | rfl | (rw [← EB.out]; rfl), _, ⟨_, _, _, H2b⟩, GA⟩
end Go.Proofs.YtbngfphiachnoaaGreatDoor.Ch
end

section
namespace Go.Proofs.YtbngfphiachnoaaGreatDoor.Ch
open Go.RowKit Go.PlainAid
open Hx Fi
set_option linter.unusedVariables false
set_option maxRecDepth 20000
set_option linter.unusedSimpArgs false

set_option maxHeartbeats 4000000 in
theorem gather_wait {w : World} {p : Nat} {x y z : Value} {Z : Nat → Prop} {most n due : Int} {part data : List UInt8} {fs : Int} {rest : List UInt8} {wr nx : Int} (H : ChAt w p x y z Z ⟨nx, most, n, due, part, data, fs, rest, wr⟩) (s : ByteArray) (hs : s.size ≤ 549755813888) (h0 : 0 < s.size) (hr : part.length + s.size < 256) (h10 : (10 : UInt8) ∉ ls s) :
    Calls Tryz.prog 78 #[.pointer (some ⟨p, 0, none⟩), .string s] w fun e w' => e = .returned (.tuple #[.string ⟨#[]⟩, .string ⟨#[]⟩, .int .i64 17]) ∧ Post w w' p Z ⟨nx, most, n, due, part ++ ls s, data, fs, rest, wr⟩ := by
  obtain ⟨ox, kx, ex, hx1, hx2⟩ := H.px.form
  simp only at ex hx1
  obtain ⟨m, hm⟩ : ∃ m, m = part.length := ⟨_, rfl⟩
  rw [← hm] at ex hx1
  subst ex
  have i9 : ((m : Int) ≤ 256) := by omega
  have lt : (s.size : Int) < 256 - (m : Int) := by omega
  have S0 : ls s = ls s := rfl
  have ib : ∀ w, Calls Tryz.prog 88 #[.string s, .int .u8 10] w fun e w' => e = .returned (.int .i64 (-1)) ∧ w = w' := fun w => by
    have ih := indexByte_any s 10 w
    rw [show ((10 : Int)).toNat.toUInt8 = 10 from rfl] at ih
    rcases idx_cases s 10 with ⟨e, _⟩ | ⟨i, _, _, e⟩
    · rw [e] at ih; exact ih
    · rw [S0, cutB_none.2 h10] at e; cases e
  have HM := Lib.hid hm
  have HR0 := Lib.hid hr
  clear hm hr
  clear h10 S0
  have d4 := H.c4
  go_enter Tryz.func78, Tryz.ntmps78
  go_wp2_with fail
  refine (ib _).mono ?_
  rintro e w' ⟨rfl, rfl⟩
  clear ib
  go_upto_region 6 with (fail)
  clear d4
  have H0 := H.drew
  have B0 : Goes w w.drew Z Z := Goes.of_below ((Below.refl _ _).drew) Z
  have d4 := H0.c4
  refine wp_region_any (by kernel_rfl) ?_
  change wpAny _ _ _ _ _ _ _ w.drew
  refine any_take 0 (.pointer (some ⟨p, 0, none⟩)) rfl (by kernel_rfl) (by kernel_rfl) (by kernel_rfl) (fun _ _ _ h => h) (Or.inl ⟨by rfl, fun x => by go_simp⟩) (fun K hK => ?_)
  go_simp
  refine hK _ _ ?_
  clear hK K
  refine any_take 1 (.pointer (some ⟨p, 0, none⟩)) rfl (by kernel_rfl) (by kernel_rfl) (by kernel_rfl) (fun _ _ _ h => h) (Or.inl ⟨by rfl, fun x => by go_simp⟩) (fun K hK => ?_)
  go_simp
  refine hK _ _ ?_
  clear hK K
  refine any_take 2 (.pointer (some ⟨p, 0, none⟩)) rfl (by kernel_rfl) (by kernel_rfl) (by kernel_rfl) (fun _ _ _ h => h) (Or.inl ⟨by rfl, fun x => by go_simp⟩) (fun K hK => ?_)
  go_simp
  refine hK _ _ ?_
  clear hK K
  refine any_take 3 (.pointer (some ⟨p, 4, none⟩)) rfl (by kernel_rfl) (by kernel_rfl) (by kernel_rfl) (fun _ _ _ h => h) (Or.inl ⟨by rfl, fun x => by go_simp⟩) (fun K hK => ?_)
  go_simp
  refine hK _ _ ?_
  clear hK K
  refine any_take 5 (.string s) rfl (by kernel_rfl) (by kernel_rfl) (by kernel_rfl) (fun _ _ _ h => h) (Or.inl ⟨by rfl, fun x => by go_simp⟩) (fun K hK => ?_)
  go_simp
  refine hK _ _ ?_
  clear hK K
  refine any_take 6 (.int .i64 (s.size : Int)) rfl (by kernel_rfl) (by kernel_rfl) (by kernel_rfl) (fun _ _ _ h => h) (Or.inl ⟨by rfl, fun x => by go_simp⟩) (fun K hK => ?_)
  go_simp
  refine hK _ _ ?_
  clear hK K
  refine any_take 7 (.string s) rfl (by kernel_rfl) (by kernel_rfl) (by kernel_rfl) (fun _ _ _ h => h) (Or.inl ⟨by rfl, fun x => by go_simp⟩) (fun K hK => ?_)
  go_simp
  refine hK _ _ ?_
  clear hK K
  refine any_one 4 (by kernel_rfl) (fun K hK => wpOp_in rfl rfl ?_)
  go_simp
  refine hK _ _ ?_
  clear hK K
  refine any_one 8 (by kernel_rfl) (fun K hK => wpOp_in rfl rfl ?_)
  refine wp_app H0.px (s := s) (by simp only; have := HR0.out; omega) _ _ rfl rfl rfl ?_
  intro o4 m4 k4 w4 r4 g4 l4
  have hp4 := H0.st.same (g4.block p H0.st.lt fun e => row_ne H0.px H0.st e.symm rfl)
  have d4 := hp4.cell 4
  have q4 := hp4.frozen 4
  obtain ⟨H1, G1⟩ := H0.rowX g4 r4 l4
  clear hp4 r4 g4 l4
  refine hK _ _ ?_
  clear hK K
  refine any_take 9 (.pointer (some ⟨p, 0, none⟩)) rfl (by kernel_rfl) (by kernel_rfl) (by kernel_rfl) (fun _ _ _ h => h) (Or.inl ⟨by rfl, fun x => by go_simp⟩) (fun K hK => ?_)
  go_simp
  refine hK _ _ ?_
  clear hK K
  refine any_take 10 (.pointer (some ⟨p, 4, none⟩)) rfl (by kernel_rfl) (by kernel_rfl) (by kernel_rfl) (fun _ _ _ h => h) (Or.inl ⟨by rfl, fun x => by go_simp⟩) (fun K hK => ?_)
  go_simp
  refine hK _ _ ?_
  clear hK K
  refine any_one 11 (by kernel_rfl) (fun K hK => wpOp_in rfl rfl ?_)
  go_simp
  refine hK _ _ ?_
  clear hK K
  refine wpAny_done (by kernel_rfl) ?_ _
  generalize w4.setCell ⟨p, 4, none⟩ (.slice o4 m4 k4) = w5 at *
  generalize Zn Z (.slice o4 m4 k4) = Z1 at *
  have GA := B0.trans G1
  clear G1 B0 H0
  have H1b : ChAt w5 p (.slice o4 m4 k4) y z Z1 ⟨nx, most, n, due, part ++ ls s, data, fs, rest, wr⟩ := by exact H1
  clear H1
  have e4 := H1b.px.len
  simp only at e4
  have hr := HR0.out
  simp only [List.length_append, List.length_take, ls_len] at e4
  have g4 : ((m4 : Int) == 256) = false := by rw [beq_eq_false_iff_ne]; omega
  have d4 := H1b.c4
  clear e4 hr
  go_wp2
  go_ret3
  exact ⟨rfl, _, ⟨_, _, _, H1b⟩, GA⟩
set_option maxHeartbeats 4000000 in
theorem gather_long {w : World} {p : Nat} {x y z : Value} {Z : Nat → Prop} {most n due : Int} {part data : List UInt8} {fs : Int} {rest : List UInt8} {wr nx : Int} (H : ChAt w p x y z Z ⟨nx, most, n, due, part, data, fs, rest, wr⟩) (s : ByteArray) (hs : s.size ≤ 549755813888) (h0 : 0 < s.size) (hr : 256 ≤ part.length + s.size) (h10 : (10 : UInt8) ∉ (ls s).take (256 - part.length)) (hp : part.length ≤ 255) :
    Calls Tryz.prog 78 #[.pointer (some ⟨p, 0, none⟩), .string s] w fun e w' => e = .returned (.tuple #[.string ⟨#[]⟩, .string ⟨#[]⟩, .int .i64 3]) ∧ Post w w' p Z ⟨nx, most, n, due, part ++ (ls s).take (256 - part.length), data, fs, rest, wr⟩ := by
  obtain ⟨ox, kx, ex, hx1, hx2⟩ := H.px.form
  simp only at ex hx1
  obtain ⟨m, hm⟩ : ∃ m, m = part.length := ⟨_, rfl⟩
  rw [← hm] at ex hx1
  subst ex
  have i9 : ((m : Int) ≤ 256) := by omega
  obtain ⟨R, hR⟩ : ∃ R : Nat, R = 256 - part.length := ⟨_, rfl⟩
  have em : 256 - (m : Int) = (R : Int) := by omega
  have nlt : ¬ (s.size : Int) < (R : Int) := by omega
  have i8 : (R : Int) ≤ (s.size : Int) := by omega
  have S0 : ls (s.extract 0 R) = (ls s).take R := by rw [ls_extract]; simp
  rw [← hR] at h10 ⊢
  have ib : ∀ w, Calls Tryz.prog 88 #[.string (s.extract 0 R), .int .u8 10] w fun e w' => e = .returned (.int .i64 (-1)) ∧ w = w' := fun w => by
    have ih := indexByte_any (s.extract 0 R) 10 w
    rw [show ((10 : Int)).toNat.toUInt8 = 10 from rfl] at ih
    rcases idx_cases (s.extract 0 R) 10 with ⟨e, _⟩ | ⟨i, _, _, e⟩
    · rw [e] at ih; exact ih
    · rw [S0, cutB_none.2 h10] at e; cases e
  have ez : (s.extract 0 R).size = R := by rw [ByteArray.size_extract]; omega
  have EZ := Lib.hid ez
  clear ez
  have HM := Lib.hid hm
  have HR0 := Lib.hid hr
  clear hm hr
  clear h10 S0
  have HR := Lib.hid hR
  clear hR
  have d4 := H.c4
  go_enter Tryz.func78, Tryz.ntmps78
  go_wp2_with fail
  refine (ib _).mono ?_
  rintro e w' ⟨rfl, rfl⟩
  clear ib
  go_upto_region 6 with (fail)
  clear d4
  have H0 := H.drew
  have B0 : Goes w w.drew Z Z := Goes.of_below ((Below.refl _ _).drew) Z
  have d4 := H0.c4
  refine wp_region_any (by kernel_rfl) ?_
  change wpAny _ _ _ _ _ _ _ w.drew
  refine any_take 0 (.pointer (some ⟨p, 0, none⟩)) rfl (by kernel_rfl) (by kernel_rfl) (by kernel_rfl) (fun _ _ _ h => h) (Or.inl ⟨by rfl, fun x => by go_simp⟩) (fun K hK => ?_)
  go_simp
  refine hK _ _ ?_
  clear hK K
  refine any_take 1 (.pointer (some ⟨p, 0, none⟩)) rfl (by kernel_rfl) (by kernel_rfl) (by kernel_rfl) (fun _ _ _ h => h) (Or.inl ⟨by rfl, fun x => by go_simp⟩) (fun K hK => ?_)
  go_simp
  refine hK _ _ ?_
  clear hK K
  refine any_take 2 (.pointer (some ⟨p, 0, none⟩)) rfl (by kernel_rfl) (by kernel_rfl) (by kernel_rfl) (fun _ _ _ h => h) (Or.inl ⟨by rfl, fun x => by go_simp⟩) (fun K hK => ?_)
  go_simp
  refine hK _ _ ?_
  clear hK K
  refine any_take 3 (.pointer (some ⟨p, 4, none⟩)) rfl (by kernel_rfl) (by kernel_rfl) (by kernel_rfl) (fun _ _ _ h => h) (Or.inl ⟨by rfl, fun x => by go_simp⟩) (fun K hK => ?_)
  go_simp
  refine hK _ _ ?_
  clear hK K
  refine any_take 5 (.string s) rfl (by kernel_rfl) (by kernel_rfl) (by kernel_rfl) (fun _ _ _ h => h) (Or.inl ⟨by rfl, fun x => by go_simp⟩) (fun K hK => ?_)
  go_simp
  refine hK _ _ ?_
  clear hK K
  refine any_take 6 (.int .i64 (R : Int)) rfl (by kernel_rfl) (by kernel_rfl) (by kernel_rfl) (fun _ _ _ h => h) (Or.inl ⟨by rfl, fun x => by go_simp⟩) (fun K hK => ?_)
  go_simp
  refine hK _ _ ?_
  clear hK K
  refine any_take 7 (.string (s.extract 0 R)) rfl (by kernel_rfl) (by kernel_rfl) (by kernel_rfl) (fun _ _ _ h => h) (Or.inl ⟨by rfl, fun x => by go_simp⟩) (fun K hK => ?_)
  go_simp
  refine hK _ _ ?_
  clear hK K
  refine any_one 4 (by kernel_rfl) (fun K hK => wpOp_in rfl rfl ?_)
  go_simp
  refine hK _ _ ?_
  clear hK K
  refine any_one 8 (by kernel_rfl) (fun K hK => wpOp_in rfl rfl ?_)
  refine wp_app H0.px (s := s.extract 0 R) (by simp only; rw [EZ.out]; omega) _ _ rfl rfl rfl ?_
  intro o4 m4 k4 w4 r4 g4 l4
  have hp4 := H0.st.same (g4.block p H0.st.lt fun e => row_ne H0.px H0.st e.symm rfl)
  have d4 := hp4.cell 4
  have q4 := hp4.frozen 4
  obtain ⟨H1, G1⟩ := H0.rowX g4 r4 l4
  clear hp4 r4 g4 l4
  refine hK _ _ ?_
  clear hK K
  refine any_take 9 (.pointer (some ⟨p, 0, none⟩)) rfl (by kernel_rfl) (by kernel_rfl) (by kernel_rfl) (fun _ _ _ h => h) (Or.inl ⟨by rfl, fun x => by go_simp⟩) (fun K hK => ?_)
  go_simp
  refine hK _ _ ?_
  clear hK K
  refine any_take 10 (.pointer (some ⟨p, 4, none⟩)) rfl (by kernel_rfl) (by kernel_rfl) (by kernel_rfl) (fun _ _ _ h => h) (Or.inl ⟨by rfl, fun x => by go_simp⟩) (fun K hK => ?_)
  go_simp
  refine hK _ _ ?_
  clear hK K
  refine any_one 11 (by kernel_rfl) (fun K hK => wpOp_in rfl rfl ?_)
  go_simp
  refine hK _ _ ?_
  clear hK K
  refine wpAny_done (by kernel_rfl) ?_ _
  generalize w4.setCell ⟨p, 4, none⟩ (.slice o4 m4 k4) = w5 at *
  generalize Zn Z (.slice o4 m4 k4) = Z1 at *
  have GA := B0.trans G1
  clear G1 B0 H0
  have H1b : ChAt w5 p (.slice o4 m4 k4) y z Z1 ⟨nx, most, n, due, part ++ (ls s).take R, data, fs, rest, wr⟩ := by have h := H1; rw [show ls (s.extract 0 R) = (ls s).take R by rw [ls_extract]; simp] at h; exact h
  clear H1
  have e4 := H1b.px.len
  simp only at e4
  have hr := HR0.out
  have hR := HR.out
  simp only [List.length_append, List.length_take, ls_len] at e4
  have g4 : ((m4 : Int) == 256) = true := by rw [beq_iff_eq]; omega
  have d4 := H1b.c4
  clear e4 hr hR
  go_wp2
  go_ret3
  exact ⟨rfl, _, ⟨_, _, _, H1b⟩, GA⟩
set_option maxHeartbeats 4000000 in
theorem gather_badA {w : World} {p : Nat} {x y z : Value} {Z : Nat → Prop} {most n due : Int} {part data : List UInt8} {fs : Int} {rest : List UInt8} {wr nx : Int} (H : ChAt w p x y z Z ⟨nx, most, n, due, part, data, fs, rest, wr⟩) (s : ByteArray) (hs : s.size ≤ 549755813888) (h0 : 0 < s.size) (hr : part.length + s.size < 256) {l r : List UInt8} (hs2 : ls s = l ++ 10 :: r) (h10 : (10 : UInt8) ∉ l) (hl : part.length + l.length ≤ 255) (h13 : (part ++ l).getLast? ≠ some 13) :
    Calls Tryz.prog 78 #[.pointer (some ⟨p, 0, none⟩), .string s] w fun e w' => e = .returned (.tuple #[.string ⟨#[]⟩, .string ⟨#[]⟩, .int .i64 3]) ∧ Post w w' p Z ⟨nx, most, n, due, [], data, fs, rest, wr⟩ := by
  obtain ⟨ox, kx, ex, hx1, hx2⟩ := H.px.form
  simp only at ex hx1
  obtain ⟨m, hm⟩ : ∃ m, m = part.length := ⟨_, rfl⟩
  rw [← hm] at ex hx1
  subst ex
  have i9 : ((m : Int) ≤ 256) := by omega
  have lt : (s.size : Int) < 256 - (m : Int) := by omega
  have S0 : ls s = ls s := rfl
  have hz : s.size = l.length + 1 + r.length := by rw [← ls_len, hs2]; simp; omega
  have hq : ∃ r2, ls s = l ++ 10 :: r2 := ⟨r, hs2⟩
  obtain ⟨r2, hr2⟩ := hq
  have ib : ∀ w, Calls Tryz.prog 88 #[.string s, .int .u8 10] w fun e w' => e = .returned (.int .i64 (l.length)) ∧ w = w' := fun w => by
    have ih := indexByte_any s 10 w
    rw [show ((10 : Int)).toNat.toUInt8 = 10 from rfl] at ih
    rcases idx_cases s 10 with ⟨_, e⟩ | ⟨i, e1, e3, e4⟩
    · rw [S0, hr2, cutB_of h10] at e; cases e
    · rw [S0, hr2, cutB_of h10] at e4
      simp only [Option.some.injEq, Prod.mk.injEq] at e4
      have e5 := congrArg List.length e4.1
      rw [List.length_take] at e5
      have hl2 : i ≤ (l ++ 10 :: r2).length := by rw [← hr2, ← S0, ls_len]; omega
      have e6 : i = l.length := by omega
      rw [e1, e6] at ih; exact ih
  obtain ⟨N, hN⟩ : ∃ N : Nat, N = l.length + 1 := ⟨_, rfl⟩
  have sm : (l.length : Int) + 1 = (N : Int) := by omega
  have i7 : (N : Int) ≤ (s.size : Int) := by omega
  have i6 : 0 < N := by omega
  have i6b : decide (0 < N) = true := decide_eq_true i6
  have ez : (s.extract 0 N).size = N := by rw [ByteArray.size_extract]; omega
  have eN : ls (s.extract 0 N) = l ++ [10] := by
    rw [ls_extract, hs2, hN]
    rw [List.drop_zero, Nat.sub_zero, show l ++ 10 :: r = (l ++ [10]) ++ r by simp]
    exact List.take_left' (by simp)
  have eB : s.extract N s.size = tx r := ls_inj (by
    rw [ls_extract, ls_tx, List.take_of_length_le (by rw [List.length_drop, ls_len]; exact Nat.le_refl _), hs2, hN]
    rw [show l ++ 10 :: r = (l ++ [10]) ++ r by simp]
    exact List.drop_left' (by simp))
  have hpl : ls (tx (part ++ (l ++ [10]))) = part ++ l ++ [10] := by rw [ls_tx, List.append_assoc]
  have hpz : (tx (part ++ (l ++ [10]))).size ≤ 1099511627776 := by rw [tx_size]; simp; omega
  have cs : ∀ w, Calls Tryz.prog 104 #[.string (tx (part ++ (l ++ [10]))), .string ⟨#[13, 10]⟩] w fun e w' => e = .returned (.tuple #[.string (tx (part ++ (l ++ [10]))), .bool false]) ∧ w = w' := fun w =>
    end_no _ w hpz (fun x hx => by
      rw [hpl, show x ++ [13, 10] = (x ++ [13]) ++ [10] by simp] at hx
      have := List.append_cancel_right hx
      rw [this] at h13
      exact h13 (by simp))
  have HB := Lib.hid eB
  have HN := Lib.hid eN
  have HL := Lib.hid hl
  clear hs2 h10 h13 S0 eB eN hpl hz hr2 hN hpz
  have EZ := Lib.hid ez
  clear ez
  have HM := Lib.hid hm
  have HR0 := Lib.hid hr
  clear hm hr
  have d4 := H.c4
  go_enter Tryz.func78, Tryz.ntmps78
  go_wp2_with fail
  refine (ib _).mono ?_
  rintro e w' ⟨rfl, rfl⟩
  clear ib
  go_upto_region 6 with (fail)
  clear d4
  have H0 := H.drew
  have B0 : Goes w w.drew Z Z := Goes.of_below ((Below.refl _ _).drew) Z
  have d4 := H0.c4
  refine wp_region_any (by kernel_rfl) ?_
  change wpAny _ _ _ _ _ _ _ w.drew
  refine any_take 0 (.pointer (some ⟨p, 0, none⟩)) rfl (by kernel_rfl) (by kernel_rfl) (by kernel_rfl) (fun _ _ _ h => h) (Or.inl ⟨by rfl, fun x => by go_simp⟩) (fun K hK => ?_)
  go_simp
  refine hK _ _ ?_
  clear hK K
  refine any_take 1 (.pointer (some ⟨p, 0, none⟩)) rfl (by kernel_rfl) (by kernel_rfl) (by kernel_rfl) (fun _ _ _ h => h) (Or.inl ⟨by rfl, fun x => by go_simp⟩) (fun K hK => ?_)
  go_simp
  refine hK _ _ ?_
  clear hK K
  refine any_take 2 (.pointer (some ⟨p, 0, none⟩)) rfl (by kernel_rfl) (by kernel_rfl) (by kernel_rfl) (fun _ _ _ h => h) (Or.inl ⟨by rfl, fun x => by go_simp⟩) (fun K hK => ?_)
  go_simp
  refine hK _ _ ?_
  clear hK K
  refine any_take 3 (.pointer (some ⟨p, 4, none⟩)) rfl (by kernel_rfl) (by kernel_rfl) (by kernel_rfl) (fun _ _ _ h => h) (Or.inl ⟨by rfl, fun x => by go_simp⟩) (fun K hK => ?_)
  go_simp
  refine hK _ _ ?_
  clear hK K
  refine any_take 5 (.string s) rfl (by kernel_rfl) (by kernel_rfl) (by kernel_rfl) (fun _ _ _ h => h) (Or.inl ⟨by rfl, fun x => by go_simp⟩) (fun K hK => ?_)
  go_simp
  refine hK _ _ ?_
  clear hK K
  refine any_take 6 (.int .i64 (N : Int)) rfl (by kernel_rfl) (by kernel_rfl) (by kernel_rfl) (fun _ _ _ h => h) (Or.inl ⟨by rfl, fun x => by go_simp⟩) (fun K hK => ?_)
  go_simp
  refine hK _ _ ?_
  clear hK K
  refine any_take 7 (.string (s.extract 0 N)) rfl (by kernel_rfl) (by kernel_rfl) (by kernel_rfl) (fun _ _ _ h => h) (Or.inl ⟨by rfl, fun x => by go_simp⟩) (fun K hK => ?_)
  go_simp
  refine hK _ _ ?_
  clear hK K
  refine any_one 4 (by kernel_rfl) (fun K hK => wpOp_in rfl rfl ?_)
  go_simp
  refine hK _ _ ?_
  clear hK K
  refine any_one 8 (by kernel_rfl) (fun K hK => wpOp_in rfl rfl ?_)
  refine wp_app H0.px (s := s.extract 0 N) (by simp only; rw [EZ.out]; have := HL.out; omega) _ _ rfl rfl rfl ?_
  intro o4 m4 k4 w4 r4 g4 l4
  have hp4 := H0.st.same (g4.block p H0.st.lt fun e => row_ne H0.px H0.st e.symm rfl)
  have d4 := hp4.cell 4
  have q4 := hp4.frozen 4
  obtain ⟨H1, G1⟩ := H0.rowX g4 r4 l4
  clear hp4 r4 g4 l4
  refine hK _ _ ?_
  clear hK K
  refine any_take 9 (.pointer (some ⟨p, 0, none⟩)) rfl (by kernel_rfl) (by kernel_rfl) (by kernel_rfl) (fun _ _ _ h => h) (Or.inl ⟨by rfl, fun x => by go_simp⟩) (fun K hK => ?_)
  go_simp
  refine hK _ _ ?_
  clear hK K
  refine any_take 10 (.pointer (some ⟨p, 4, none⟩)) rfl (by kernel_rfl) (by kernel_rfl) (by kernel_rfl) (fun _ _ _ h => h) (Or.inl ⟨by rfl, fun x => by go_simp⟩) (fun K hK => ?_)
  go_simp
  refine hK _ _ ?_
  clear hK K
  refine any_one 11 (by kernel_rfl) (fun K hK => wpOp_in rfl rfl ?_)
  go_simp
  refine hK _ _ ?_
  clear hK K
  refine wpAny_done (by kernel_rfl) ?_ _
  generalize w4.setCell ⟨p, 4, none⟩ (.slice o4 m4 k4) = w5 at *
  generalize Zn Z (.slice o4 m4 k4) = Z1 at *
  have GA := B0.trans G1
  clear G1 B0 H0
  have H1b : ChAt w5 p (.slice o4 m4 k4) y z Z1 ⟨nx, most, n, due, part ++ (l ++ [10]), data, fs, rest, wr⟩ := by have h := H1; rw [HN.out] at h; exact h
  clear H1
  have e4 := H1b.px.len
  simp only at e4
  clear e4
  have cv := H1b.px.text
  simp only at cv
  have d4 := H1b.c4
  have f4 := H1b.fz 4
  obtain ⟨H2, G2⟩ := H1b.cutX
  simp only at H2
  generalize hP : tx (part ++ (l ++ [10])) = P at *
  clear hP
  go_wp2_with fail
  refine (cs _).mono ?_
  rintro e w' ⟨rfl, rfl⟩
  clear cs
  go_upto_region 13 with (fail)
  generalize w5.setCell ⟨p, 4, none⟩ (.slice o4 0 k4) = w6 at H2 G2 ⊢
  go_wp2_with fail
  go_ret3
  exact ⟨rfl, _, ⟨_, _, _, H2⟩, GA.trans G2⟩
set_option maxHeartbeats 4000000 in
theorem gather_badB {w : World} {p : Nat} {x y z : Value} {Z : Nat → Prop} {most n due : Int} {part data : List UInt8} {fs : Int} {rest : List UInt8} {wr nx : Int} (H : ChAt w p x y z Z ⟨nx, most, n, due, part, data, fs, rest, wr⟩) (s : ByteArray) (hs : s.size ≤ 549755813888) (h0 : 0 < s.size) (hr : 256 ≤ part.length + s.size) {l r : List UInt8} (hs2 : ls s = l ++ 10 :: r) (h10 : (10 : UInt8) ∉ l) (hl : part.length + l.length ≤ 255) (h13 : (part ++ l).getLast? ≠ some 13) :
    Calls Tryz.prog 78 #[.pointer (some ⟨p, 0, none⟩), .string s] w fun e w' => e = .returned (.tuple #[.string ⟨#[]⟩, .string ⟨#[]⟩, .int .i64 3]) ∧ Post w w' p Z ⟨nx, most, n, due, [], data, fs, rest, wr⟩ := by
  obtain ⟨ox, kx, ex, hx1, hx2⟩ := H.px.form
  simp only at ex hx1
  obtain ⟨m, hm⟩ : ∃ m, m = part.length := ⟨_, rfl⟩
  rw [← hm] at ex hx1
  subst ex
  have i9 : ((m : Int) ≤ 256) := by omega
  obtain ⟨R, hR⟩ : ∃ R : Nat, R = 256 - part.length := ⟨_, rfl⟩
  have em : 256 - (m : Int) = (R : Int) := by omega
  have nlt : ¬ (s.size : Int) < (R : Int) := by omega
  have i8 : (R : Int) ≤ (s.size : Int) := by omega
  have S0 : ls (s.extract 0 R) = (ls s).take R := by rw [ls_extract]; simp
  have hz : s.size = l.length + 1 + r.length := by rw [← ls_len, hs2]; simp; omega
  have hq : ∃ r2, (ls s).take R = l ++ 10 :: r2 := by
    obtain ⟨q, hq⟩ : ∃ q, R - l.length = q + 1 := ⟨R - l.length - 1, by omega⟩
    refine ⟨r.take q, ?_⟩
    rw [hs2, List.take_append, List.take_of_length_le (by omega), hq, List.take_succ_cons]
  obtain ⟨r2, hr2⟩ := hq
  have ib : ∀ w, Calls Tryz.prog 88 #[.string (s.extract 0 R), .int .u8 10] w fun e w' => e = .returned (.int .i64 (l.length)) ∧ w = w' := fun w => by
    have ih := indexByte_any (s.extract 0 R) 10 w
    rw [show ((10 : Int)).toNat.toUInt8 = 10 from rfl] at ih
    rcases idx_cases (s.extract 0 R) 10 with ⟨_, e⟩ | ⟨i, e1, e3, e4⟩
    · rw [S0, hr2, cutB_of h10] at e; cases e
    · rw [S0, hr2, cutB_of h10] at e4
      simp only [Option.some.injEq, Prod.mk.injEq] at e4
      have e5 := congrArg List.length e4.1
      rw [List.length_take] at e5
      have hl2 : i ≤ (l ++ 10 :: r2).length := by rw [← hr2, ← S0, ls_len]; omega
      have e6 : i = l.length := by omega
      rw [e1, e6] at ih; exact ih
  obtain ⟨N, hN⟩ : ∃ N : Nat, N = l.length + 1 := ⟨_, rfl⟩
  have sm : (l.length : Int) + 1 = (N : Int) := by omega
  have i7 : (N : Int) ≤ (s.size : Int) := by omega
  have i6 : 0 < N := by omega
  have i6b : decide (0 < N) = true := decide_eq_true i6
  have ez : (s.extract 0 N).size = N := by rw [ByteArray.size_extract]; omega
  have eN : ls (s.extract 0 N) = l ++ [10] := by
    rw [ls_extract, hs2, hN]
    rw [List.drop_zero, Nat.sub_zero, show l ++ 10 :: r = (l ++ [10]) ++ r by simp]
    exact List.take_left' (by simp)
  have eB : s.extract N s.size = tx r := ls_inj (by
    rw [ls_extract, ls_tx, List.take_of_length_le (by rw [List.length_drop, ls_len]; exact Nat.le_refl _), hs2, hN]
    rw [show l ++ 10 :: r = (l ++ [10]) ++ r by simp]
    exact List.drop_left' (by simp))
  have hpl : ls (tx (part ++ (l ++ [10]))) = part ++ l ++ [10] := by rw [ls_tx, List.append_assoc]
  have hpz : (tx (part ++ (l ++ [10]))).size ≤ 1099511627776 := by rw [tx_size]; simp; omega
  have cs : ∀ w, Calls Tryz.prog 104 #[.string (tx (part ++ (l ++ [10]))), .string ⟨#[13, 10]⟩] w fun e w' => e = .returned (.tuple #[.string (tx (part ++ (l ++ [10]))), .bool false]) ∧ w = w' := fun w =>
    end_no _ w hpz (fun x hx => by
      rw [hpl, show x ++ [13, 10] = (x ++ [13]) ++ [10] by simp] at hx
      have := List.append_cancel_right hx
      rw [this] at h13
      exact h13 (by simp))
  have HB := Lib.hid eB
  have HN := Lib.hid eN
  have HL := Lib.hid hl
  clear hs2 h10 h13 S0 eB eN hpl hz hr2 hN hpz
  have EZ := Lib.hid ez
  clear ez
  have HM := Lib.hid hm
  have HR0 := Lib.hid hr
  clear hm hr
  have HR := Lib.hid hR
  clear hR
  have d4 := H.c4
  go_enter Tryz.func78, Tryz.ntmps78
  go_wp2_with fail
  refine (ib _).mono ?_
  rintro e w' ⟨rfl, rfl⟩
  clear ib
  go_upto_region 6 with (fail)
  clear d4
  have H0 := H.drew
  have B0 : Goes w w.drew Z Z := Goes.of_below ((Below.refl _ _).drew) Z
  have d4 := H0.c4
  refine wp_region_any (by kernel_rfl) ?_
  change wpAny _ _ _ _ _ _ _ w.drew
  refine any_take 0 (.pointer (some ⟨p, 0, none⟩)) rfl (by kernel_rfl) (by kernel_rfl) (by kernel_rfl) (fun _ _ _ h => h) (Or.inl ⟨by rfl, fun x => by go_simp⟩) (fun K hK => ?_)
  go_simp
  refine hK _ _ ?_
  clear hK K
  refine any_take 1 (.pointer (some ⟨p, 0, none⟩)) rfl (by kernel_rfl) (by kernel_rfl) (by kernel_rfl) (fun _ _ _ h => h) (Or.inl ⟨by rfl, fun x => by go_simp⟩) (fun K hK => ?_)
  go_simp
  refine hK _ _ ?_
  clear hK K
  refine any_take 2 (.pointer (some ⟨p, 0, none⟩)) rfl (by kernel_rfl) (by kernel_rfl) (by kernel_rfl) (fun _ _ _ h => h) (Or.inl ⟨by rfl, fun x => by go_simp⟩) (fun K hK => ?_)
  go_simp
  refine hK _ _ ?_
  clear hK K
  refine any_take 3 (.pointer (some ⟨p, 4, none⟩)) rfl (by kernel_rfl) (by kernel_rfl) (by kernel_rfl) (fun _ _ _ h => h) (Or.inl ⟨by rfl, fun x => by go_simp⟩) (fun K hK => ?_)
  go_simp
  refine hK _ _ ?_
  clear hK K
  refine any_take 5 (.string s) rfl (by kernel_rfl) (by kernel_rfl) (by kernel_rfl) (fun _ _ _ h => h) (Or.inl ⟨by rfl, fun x => by go_simp⟩) (fun K hK => ?_)
  go_simp
  refine hK _ _ ?_
  clear hK K
  refine any_take 6 (.int .i64 (N : Int)) rfl (by kernel_rfl) (by kernel_rfl) (by kernel_rfl) (fun _ _ _ h => h) (Or.inl ⟨by rfl, fun x => by go_simp⟩) (fun K hK => ?_)
  go_simp
  refine hK _ _ ?_
  clear hK K
  refine any_take 7 (.string (s.extract 0 N)) rfl (by kernel_rfl) (by kernel_rfl) (by kernel_rfl) (fun _ _ _ h => h) (Or.inl ⟨by rfl, fun x => by go_simp⟩) (fun K hK => ?_)
  go_simp
  refine hK _ _ ?_
  clear hK K
  refine any_one 4 (by kernel_rfl) (fun K hK => wpOp_in rfl rfl ?_)
  go_simp
  refine hK _ _ ?_
  clear hK K
  refine any_one 8 (by kernel_rfl) (fun K hK => wpOp_in rfl rfl ?_)
  refine wp_app H0.px (s := s.extract 0 N) (by simp only; rw [EZ.out]; have := HL.out; omega) _ _ rfl rfl rfl ?_
  intro o4 m4 k4 w4 r4 g4 l4
  have hp4 := H0.st.same (g4.block p H0.st.lt fun e => row_ne H0.px H0.st e.symm rfl)
  have d4 := hp4.cell 4
  have q4 := hp4.frozen 4
  obtain ⟨H1, G1⟩ := H0.rowX g4 r4 l4
  clear hp4 r4 g4 l4
  refine hK _ _ ?_
  clear hK K
  refine any_take 9 (.pointer (some ⟨p, 0, none⟩)) rfl (by kernel_rfl) (by kernel_rfl) (by kernel_rfl) (fun _ _ _ h => h) (Or.inl ⟨by rfl, fun x => by go_simp⟩) (fun K hK => ?_)
  go_simp
  refine hK _ _ ?_
  clear hK K
  refine any_take 10 (.pointer (some ⟨p, 4, none⟩)) rfl (by kernel_rfl) (by kernel_rfl) (by kernel_rfl) (fun _ _ _ h => h) (Or.inl ⟨by rfl, fun x => by go_simp⟩) (fun K hK => ?_)
  go_simp
  refine hK _ _ ?_
  clear hK K
  refine any_one 11 (by kernel_rfl) (fun K hK => wpOp_in rfl rfl ?_)
  go_simp
  refine hK _ _ ?_
  clear hK K
  refine wpAny_done (by kernel_rfl) ?_ _
  generalize w4.setCell ⟨p, 4, none⟩ (.slice o4 m4 k4) = w5 at *
  generalize Zn Z (.slice o4 m4 k4) = Z1 at *
  have GA := B0.trans G1
  clear G1 B0 H0
  have H1b : ChAt w5 p (.slice o4 m4 k4) y z Z1 ⟨nx, most, n, due, part ++ (l ++ [10]), data, fs, rest, wr⟩ := by have h := H1; rw [HN.out] at h; exact h
  clear H1
  have e4 := H1b.px.len
  simp only at e4
  clear e4
  have cv := H1b.px.text
  simp only at cv
  have d4 := H1b.c4
  have f4 := H1b.fz 4
  obtain ⟨H2, G2⟩ := H1b.cutX
  simp only at H2
  generalize hP : tx (part ++ (l ++ [10])) = P at *
  clear hP
  go_wp2_with fail
  refine (cs _).mono ?_
  rintro e w' ⟨rfl, rfl⟩
  clear cs
  go_upto_region 13 with (fail)
  generalize w5.setCell ⟨p, 4, none⟩ (.slice o4 0 k4) = w6 at H2 G2 ⊢
  go_wp2_with fail
  go_ret3
  exact ⟨rfl, _, ⟨_, _, _, H2⟩, GA.trans G2⟩
set_option maxHeartbeats 4000000 in
theorem gather_goodA {w : World} {p : Nat} {x y z : Value} {Z : Nat → Prop} {most n due : Int} {part data : List UInt8} {fs : Int} {rest : List UInt8} {wr nx : Int} (H : ChAt w p x y z Z ⟨nx, most, n, due, part, data, fs, rest, wr⟩) (s : ByteArray) (hs : s.size ≤ 549755813888) (h0 : 0 < s.size) (hr : part.length + s.size < 256) {l r t : List UInt8} (hs2 : ls s = l ++ 10 :: r) (h10 : (10 : UInt8) ∉ l) (hl : part.length + l.length ≤ 255) (h13 : part ++ l = t ++ [13]) :
    Calls Tryz.prog 78 #[.pointer (some ⟨p, 0, none⟩), .string s] w fun e w' => e = .returned (.tuple #[.string (tx t), .string (tx r), .int .i64 0]) ∧ Post w w' p Z ⟨nx, most, n, due, [], data, fs, rest, wr⟩ := by
  obtain ⟨ox, kx, ex, hx1, hx2⟩ := H.px.form
  simp only at ex hx1
  obtain ⟨m, hm⟩ : ∃ m, m = part.length := ⟨_, rfl⟩
  rw [← hm] at ex hx1
  subst ex
  have i9 : ((m : Int) ≤ 256) := by omega
  have lt : (s.size : Int) < 256 - (m : Int) := by omega
  have S0 : ls s = ls s := rfl
  have hz : s.size = l.length + 1 + r.length := by rw [← ls_len, hs2]; simp; omega
  have hq : ∃ r2, ls s = l ++ 10 :: r2 := ⟨r, hs2⟩
  obtain ⟨r2, hr2⟩ := hq
  have ib : ∀ w, Calls Tryz.prog 88 #[.string s, .int .u8 10] w fun e w' => e = .returned (.int .i64 (l.length)) ∧ w = w' := fun w => by
    have ih := indexByte_any s 10 w
    rw [show ((10 : Int)).toNat.toUInt8 = 10 from rfl] at ih
    rcases idx_cases s 10 with ⟨_, e⟩ | ⟨i, e1, e3, e4⟩
    · rw [S0, hr2, cutB_of h10] at e; cases e
    · rw [S0, hr2, cutB_of h10] at e4
      simp only [Option.some.injEq, Prod.mk.injEq] at e4
      have e5 := congrArg List.length e4.1
      rw [List.length_take] at e5
      have hl2 : i ≤ (l ++ 10 :: r2).length := by rw [← hr2, ← S0, ls_len]; omega
      have e6 : i = l.length := by omega
      rw [e1, e6] at ih; exact ih
  obtain ⟨N, hN⟩ : ∃ N : Nat, N = l.length + 1 := ⟨_, rfl⟩
  have sm : (l.length : Int) + 1 = (N : Int) := by omega
  have i7 : (N : Int) ≤ (s.size : Int) := by omega
  have i6 : 0 < N := by omega
  have i6b : decide (0 < N) = true := decide_eq_true i6
  have ez : (s.extract 0 N).size = N := by rw [ByteArray.size_extract]; omega
  have eN : ls (s.extract 0 N) = l ++ [10] := by
    rw [ls_extract, hs2, hN]
    rw [List.drop_zero, Nat.sub_zero, show l ++ 10 :: r = (l ++ [10]) ++ r by simp]
    exact List.take_left' (by simp)
  have eB : s.extract N s.size = tx r := ls_inj (by
    rw [ls_extract, ls_tx, List.take_of_length_le (by rw [List.length_drop, ls_len]; exact Nat.le_refl _), hs2, hN]
    rw [show l ++ 10 :: r = (l ++ [10]) ++ r by simp]
    exact List.drop_left' (by simp))
  have hpl : ls (tx (part ++ (l ++ [10]))) = part ++ l ++ [10] := by rw [ls_tx, List.append_assoc]
  have hpz : (tx (part ++ (l ++ [10]))).size ≤ 1099511627776 := by rw [tx_size]; simp; omega
  have cs : ∀ w, Calls Tryz.prog 104 #[.string (tx (part ++ (l ++ [10]))), .string ⟨#[13, 10]⟩] w fun e w' => e = .returned (.tuple #[.string (tx t), .bool true]) ∧ w = w' := fun w =>
    end_yes _ t w hpz (by rw [hpl, h13]; simp)
  have HB := Lib.hid eB
  have HN := Lib.hid eN
  have HL := Lib.hid hl
  clear hs2 h10 h13 S0 eB eN hpl hz hr2 hN hpz
  have EZ := Lib.hid ez
  clear ez
  have HM := Lib.hid hm
  have HR0 := Lib.hid hr
  clear hm hr
  have d4 := H.c4
  go_enter Tryz.func78, Tryz.ntmps78
  go_wp2_with fail
  refine (ib _).mono ?_
  rintro e w' ⟨rfl, rfl⟩
  clear ib
  go_upto_region 6 with (fail)
  clear d4
  have H0 := H.drew
  have B0 : Goes w w.drew Z Z := Goes.of_below ((Below.refl _ _).drew) Z
  have d4 := H0.c4
  refine wp_region_any (by kernel_rfl) ?_
  change wpAny _ _ _ _ _ _ _ w.drew
  refine any_take 0 (.pointer (some ⟨p, 0, none⟩)) rfl (by kernel_rfl) (by kernel_rfl) (by kernel_rfl) (fun _ _ _ h => h) (Or.inl ⟨by rfl, fun x => by go_simp⟩) (fun K hK => ?_)
  go_simp
  refine hK _ _ ?_
  clear hK K
  refine any_take 1 (.pointer (some ⟨p, 0, none⟩)) rfl (by kernel_rfl) (by kernel_rfl) (by kernel_rfl) (fun _ _ _ h => h) (Or.inl ⟨by rfl, fun x => by go_simp⟩) (fun K hK => ?_)
  go_simp
  refine hK _ _ ?_
  clear hK K
  refine any_take 2 (.pointer (some ⟨p, 0, none⟩)) rfl (by kernel_rfl) (by kernel_rfl) (by kernel_rfl) (fun _ _ _ h => h) (Or.inl ⟨by rfl, fun x => by go_simp⟩) (fun K hK => ?_)
  go_simp
  refine hK _ _ ?_
  clear hK K
  refine any_take 3 (.pointer (some ⟨p, 4, none⟩)) rfl (by kernel_rfl) (by kernel_rfl) (by kernel_rfl) (fun _ _ _ h => h) (Or.inl ⟨by rfl, fun x => by go_simp⟩) (fun K hK => ?_)
  go_simp
  refine hK _ _ ?_
  clear hK K
  refine any_take 5 (.string s) rfl (by kernel_rfl) (by kernel_rfl) (by kernel_rfl) (fun _ _ _ h => h) (Or.inl ⟨by rfl, fun x => by go_simp⟩) (fun K hK => ?_)
  go_simp
  refine hK _ _ ?_
  clear hK K
  refine any_take 6 (.int .i64 (N : Int)) rfl (by kernel_rfl) (by kernel_rfl) (by kernel_rfl) (fun _ _ _ h => h) (Or.inl ⟨by rfl, fun x => by go_simp⟩) (fun K hK => ?_)
  go_simp
  refine hK _ _ ?_
  clear hK K
  refine any_take 7 (.string (s.extract 0 N)) rfl (by kernel_rfl) (by kernel_rfl) (by kernel_rfl) (fun _ _ _ h => h) (Or.inl ⟨by rfl, fun x => by go_simp⟩) (fun K hK => ?_)
  go_simp
  refine hK _ _ ?_
  clear hK K
  refine any_one 4 (by kernel_rfl) (fun K hK => wpOp_in rfl rfl ?_)
  go_simp
  refine hK _ _ ?_
  clear hK K
  refine any_one 8 (by kernel_rfl) (fun K hK => wpOp_in rfl rfl ?_)
  refine wp_app H0.px (s := s.extract 0 N) (by simp only; rw [EZ.out]; have := HL.out; omega) _ _ rfl rfl rfl ?_
  intro o4 m4 k4 w4 r4 g4 l4
  have hp4 := H0.st.same (g4.block p H0.st.lt fun e => row_ne H0.px H0.st e.symm rfl)
  have d4 := hp4.cell 4
  have q4 := hp4.frozen 4
  obtain ⟨H1, G1⟩ := H0.rowX g4 r4 l4
  clear hp4 r4 g4 l4
  refine hK _ _ ?_
  clear hK K
  refine any_take 9 (.pointer (some ⟨p, 0, none⟩)) rfl (by kernel_rfl) (by kernel_rfl) (by kernel_rfl) (fun _ _ _ h => h) (Or.inl ⟨by rfl, fun x => by go_simp⟩) (fun K hK => ?_)
  go_simp
  refine hK _ _ ?_
  clear hK K
  refine any_take 10 (.pointer (some ⟨p, 4, none⟩)) rfl (by kernel_rfl) (by kernel_rfl) (by kernel_rfl) (fun _ _ _ h => h) (Or.inl ⟨by rfl, fun x => by go_simp⟩) (fun K hK => ?_)
  go_simp
  refine hK _ _ ?_
  clear hK K
  refine any_one 11 (by kernel_rfl) (fun K hK => wpOp_in rfl rfl ?_)
  go_simp
  refine hK _ _ ?_
  clear hK K
  refine wpAny_done (by kernel_rfl) ?_ _
  generalize w4.setCell ⟨p, 4, none⟩ (.slice o4 m4 k4) = w5 at *
  generalize Zn Z (.slice o4 m4 k4) = Z1 at *
  have GA := B0.trans G1
  clear G1 B0 H0
  have H1b : ChAt w5 p (.slice o4 m4 k4) y z Z1 ⟨nx, most, n, due, part ++ (l ++ [10]), data, fs, rest, wr⟩ := by have h := H1; rw [HN.out] at h; exact h
  clear H1
  have e4 := H1b.px.len
  simp only at e4
  clear e4
  have cv := H1b.px.text
  simp only at cv
  have d4 := H1b.c4
  have f4 := H1b.fz 4
  obtain ⟨H2, G2⟩ := H1b.cutX
  simp only at H2
  generalize hP : tx (part ++ (l ++ [10])) = P at *
  clear hP
  go_wp2_with fail
  refine (cs _).mono ?_
  rintro e w' ⟨rfl, rfl⟩
  clear cs
  go_upto_region 13 with (fail)
  generalize w5.setCell ⟨p, 4, none⟩ (.slice o4 0 k4) = w6 at H2 G2 ⊢
  go_wp2_with fail
  go_quiet (fail)
  have H3 := H2.old (w' := w6.drewN nq) ⟨rfl, rfl, rfl, Nat.le_refl _, fun _ _ => rfl⟩
  have BQ : Below w6.heap.size w6 (w6.drewN nq) := ⟨rfl, rfl, rfl, Nat.le_refl _, fun _ _ => rfl⟩
  have G3 : Goes w6 (w6.drewN nq) Z1 Z1 := Goes.of_below BQ Z1
  clear BQ
  generalize w6.drewN nq = w7 at H3 G3 ⊢
  go_wp2
  go_ret3
  exact ⟨by rw [← HB.out]; rfl, _, ⟨_, _, _, H3⟩, GA.trans (G2.trans G3)⟩
set_option maxHeartbeats 4000000 in
theorem gather_goodB {w : World} {p : Nat} {x y z : Value} {Z : Nat → Prop} {most n due : Int} {part data : List UInt8} {fs : Int} {rest : List UInt8} {wr nx : Int} (H : ChAt w p x y z Z ⟨nx, most, n, due, part, data, fs, rest, wr⟩) (s : ByteArray) (hs : s.size ≤ 549755813888) (h0 : 0 < s.size) (hr : 256 ≤ part.length + s.size) {l r t : List UInt8} (hs2 : ls s = l ++ 10 :: r) (h10 : (10 : UInt8) ∉ l) (hl : part.length + l.length ≤ 255) (h13 : part ++ l = t ++ [13]) :
    Calls Tryz.prog 78 #[.pointer (some ⟨p, 0, none⟩), .string s] w fun e w' => e = .returned (.tuple #[.string (tx t), .string (tx r), .int .i64 0]) ∧ Post w w' p Z ⟨nx, most, n, due, [], data, fs, rest, wr⟩ := by
  obtain ⟨ox, kx, ex, hx1, hx2⟩ := H.px.form
  simp only at ex hx1
  obtain ⟨m, hm⟩ : ∃ m, m = part.length := ⟨_, rfl⟩
  rw [← hm] at ex hx1
  subst ex
  have i9 : ((m : Int) ≤ 256) := by omega
  obtain ⟨R, hR⟩ : ∃ R : Nat, R = 256 - part.length := ⟨_, rfl⟩
  have em : 256 - (m : Int) = (R : Int) := by omega
  have nlt : ¬ (s.size : Int) < (R : Int) := by omega
  have i8 : (R : Int) ≤ (s.size : Int) := by omega
  have S0 : ls (s.extract 0 R) = (ls s).take R := by rw [ls_extract]; simp
  have hz : s.size = l.length + 1 + r.length := by rw [← ls_len, hs2]; simp; omega
  have hq : ∃ r2, (ls s).take R = l ++ 10 :: r2 := by
    obtain ⟨q, hq⟩ : ∃ q, R - l.length = q + 1 := ⟨R - l.length - 1, by omega⟩
    refine ⟨r.take q, ?_⟩
    rw [hs2, List.take_append, List.take_of_length_le (by omega), hq, List.take_succ_cons]
  obtain ⟨r2, hr2⟩ := hq
  have ib : ∀ w, Calls Tryz.prog 88 #[.string (s.extract 0 R), .int .u8 10] w fun e w' => e = .returned (.int .i64 (l.length)) ∧ w = w' := fun w => by
    have ih := indexByte_any (s.extract 0 R) 10 w
    rw [show ((10 : Int)).toNat.toUInt8 = 10 from rfl] at ih
    rcases idx_cases (s.extract 0 R) 10 with ⟨_, e⟩ | ⟨i, e1, e3, e4⟩
    · rw [S0, hr2, cutB_of h10] at e; cases e
    · rw [S0, hr2, cutB_of h10] at e4
      simp only [Option.some.injEq, Prod.mk.injEq] at e4
      have e5 := congrArg List.length e4.1
      rw [List.length_take] at e5
      have hl2 : i ≤ (l ++ 10 :: r2).length := by rw [← hr2, ← S0, ls_len]; omega
      have e6 : i = l.length := by omega
      rw [e1, e6] at ih; exact ih
  obtain ⟨N, hN⟩ : ∃ N : Nat, N = l.length + 1 := ⟨_, rfl⟩
  have sm : (l.length : Int) + 1 = (N : Int) := by omega
  have i7 : (N : Int) ≤ (s.size : Int) := by omega
  have i6 : 0 < N := by omega
  have i6b : decide (0 < N) = true := decide_eq_true i6
  have ez : (s.extract 0 N).size = N := by rw [ByteArray.size_extract]; omega
  have eN : ls (s.extract 0 N) = l ++ [10] := by
    rw [ls_extract, hs2, hN]
    rw [List.drop_zero, Nat.sub_zero, show l ++ 10 :: r = (l ++ [10]) ++ r by simp]
    exact List.take_left' (by simp)
  have eB : s.extract N s.size = tx r := ls_inj (by
    rw [ls_extract, ls_tx, List.take_of_length_le (by rw [List.length_drop, ls_len]; exact Nat.le_refl _), hs2, hN]
    rw [show l ++ 10 :: r = (l ++ [10]) ++ r by simp]
    exact List.drop_left' (by simp))
  have hpl : ls (tx (part ++ (l ++ [10]))) = part ++ l ++ [10] := by rw [ls_tx, List.append_assoc]
  have hpz : (tx (part ++ (l ++ [10]))).size ≤ 1099511627776 := by rw [tx_size]; simp; omega
  have cs : ∀ w, Calls Tryz.prog 104 #[.string (tx (part ++ (l ++ [10]))), .string ⟨#[13, 10]⟩] w fun e w' => e = .returned (.tuple #[.string (tx t), .bool true]) ∧ w = w' := fun w =>
    end_yes _ t w hpz (by rw [hpl, h13]; simp)
  have HB := Lib.hid eB
  have HN := Lib.hid eN
  have HL := Lib.hid hl
  clear hs2 h10 h13 S0 eB eN hpl hz hr2 hN hpz
  have EZ := Lib.hid ez
  clear ez
  have HM := Lib.hid hm
  have HR0 := Lib.hid hr
  clear hm hr
  have HR := Lib.hid hR
  clear hR
  have d4 := H.c4
  go_enter Tryz.func78, Tryz.ntmps78
  go_wp2_with fail
  refine (ib _).mono ?_
  rintro e w' ⟨rfl, rfl⟩
  clear ib
  go_upto_region 6 with (fail)
  clear d4
  have H0 := H.drew
  have B0 : Goes w w.drew Z Z := Goes.of_below ((Below.refl _ _).drew) Z
  have d4 := H0.c4
  refine wp_region_any (by kernel_rfl) ?_
  change wpAny _ _ _ _ _ _ _ w.drew
  refine any_take 0 (.pointer (some ⟨p, 0, none⟩)) rfl (by kernel_rfl) (by kernel_rfl) (by kernel_rfl) (fun _ _ _ h => h) (Or.inl ⟨by rfl, fun x => by go_simp⟩) (fun K hK => ?_)
  go_simp
  refine hK _ _ ?_
  clear hK K
  refine any_take 1 (.pointer (some ⟨p, 0, none⟩)) rfl (by kernel_rfl) (by kernel_rfl) (by kernel_rfl) (fun _ _ _ h => h) (Or.inl ⟨by rfl, fun x => by go_simp⟩) (fun K hK => ?_)
  go_simp
  refine hK _ _ ?_
  clear hK K
  refine any_take 2 (.pointer (some ⟨p, 0, none⟩)) rfl (by kernel_rfl) (by kernel_rfl) (by kernel_rfl) (fun _ _ _ h => h) (Or.inl ⟨by rfl, fun x => by go_simp⟩) (fun K hK => ?_)
  go_simp
  refine hK _ _ ?_
  clear hK K
  refine any_take 3 (.pointer (some ⟨p, 4, none⟩)) rfl (by kernel_rfl) (by kernel_rfl) (by kernel_rfl) (fun _ _ _ h => h) (Or.inl ⟨by rfl, fun x => by go_simp⟩) (fun K hK => ?_)
  go_simp
  refine hK _ _ ?_
  clear hK K
  refine any_take 5 (.string s) rfl (by kernel_rfl) (by kernel_rfl) (by kernel_rfl) (fun _ _ _ h => h) (Or.inl ⟨by rfl, fun x => by go_simp⟩) (fun K hK => ?_)
  go_simp
  refine hK _ _ ?_
  clear hK K
  refine any_take 6 (.int .i64 (N : Int)) rfl (by kernel_rfl) (by kernel_rfl) (by kernel_rfl) (fun _ _ _ h => h) (Or.inl ⟨by rfl, fun x => by go_simp⟩) (fun K hK => ?_)
  go_simp
  refine hK _ _ ?_
  clear hK K
  refine any_take 7 (.string (s.extract 0 N)) rfl (by kernel_rfl) (by kernel_rfl) (by kernel_rfl) (fun _ _ _ h => h) (Or.inl ⟨by rfl, fun x => by go_simp⟩) (fun K hK => ?_)
  go_simp
  refine hK _ _ ?_
  clear hK K
  refine any_one 4 (by kernel_rfl) (fun K hK => wpOp_in rfl rfl ?_)
  go_simp
  refine hK _ _ ?_
  clear hK K
  refine any_one 8 (by kernel_rfl) (fun K hK => wpOp_in rfl rfl ?_)
  refine wp_app H0.px (s := s.extract 0 N) (by simp only; rw [EZ.out]; have := HL.out; omega) _ _ rfl rfl rfl ?_
  intro o4 m4 k4 w4 r4 g4 l4
  have hp4 := H0.st.same (g4.block p H0.st.lt fun e => row_ne H0.px H0.st e.symm rfl)
  have d4 := hp4.cell 4
  have q4 := hp4.frozen 4
  obtain ⟨H1, G1⟩ := H0.rowX g4 r4 l4
  clear hp4 r4 g4 l4
  refine hK _ _ ?_
  clear hK K
  refine any_take 9 (.pointer (some ⟨p, 0, none⟩)) rfl (by kernel_rfl) (by kernel_rfl) (by kernel_rfl) (fun _ _ _ h => h) (Or.inl ⟨by rfl, fun x => by go_simp⟩) (fun K hK => ?_)
  go_simp
  refine hK _ _ ?_
  clear hK K
  refine any_take 10 (.pointer (some ⟨p, 4, none⟩)) rfl (by kernel_rfl) (by kernel_rfl) (by kernel_rfl) (fun _ _ _ h => h) (Or.inl ⟨by rfl, fun x => by go_simp⟩) (fun K hK => ?_)
  go_simp
  refine hK _ _ ?_
  clear hK K
  refine any_one 11 (by kernel_rfl) (fun K hK => wpOp_in rfl rfl ?_)
  go_simp
  refine hK _ _ ?_
  clear hK K
  refine wpAny_done (by kernel_rfl) ?_ _
  generalize w4.setCell ⟨p, 4, none⟩ (.slice o4 m4 k4) = w5 at *
  generalize Zn Z (.slice o4 m4 k4) = Z1 at *
  have GA := B0.trans G1
  clear G1 B0 H0
  have H1b : ChAt w5 p (.slice o4 m4 k4) y z Z1 ⟨nx, most, n, due, part ++ (l ++ [10]), data, fs, rest, wr⟩ := by have h := H1; rw [HN.out] at h; exact h
  clear H1
  have e4 := H1b.px.len
  simp only at e4
  clear e4
  have cv := H1b.px.text
  simp only at cv
  have d4 := H1b.c4
  have f4 := H1b.fz 4
  obtain ⟨H2, G2⟩ := H1b.cutX
  simp only at H2
  generalize hP : tx (part ++ (l ++ [10])) = P at *
  clear hP
  go_wp2_with fail
  refine (cs _).mono ?_
  rintro e w' ⟨rfl, rfl⟩
  clear cs
  go_upto_region 13 with (fail)
  generalize w5.setCell ⟨p, 4, none⟩ (.slice o4 0 k4) = w6 at H2 G2 ⊢
  go_wp2_with fail
  go_quiet (fail)
  have H3 := H2.old (w' := w6.drewN nq) ⟨rfl, rfl, rfl, Nat.le_refl _, fun _ _ => rfl⟩
  have BQ : Below w6.heap.size w6 (w6.drewN nq) := ⟨rfl, rfl, rfl, Nat.le_refl _, fun _ _ => rfl⟩
  have G3 : Goes w6 (w6.drewN nq) Z1 Z1 := Goes.of_below BQ Z1
  clear BQ
  generalize w6.drewN nq = w7 at H3 G3 ⊢
  go_wp2
  go_ret3
  exact ⟨by rw [← HB.out]; rfl, _, ⟨_, _, _, H3⟩, GA.trans (G2.trans G3)⟩
end Go.Proofs.YtbngfphiachnoaaGreatDoor.Ch
end
