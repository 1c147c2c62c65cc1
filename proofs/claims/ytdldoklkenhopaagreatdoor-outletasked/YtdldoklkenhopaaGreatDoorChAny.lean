/-
  Contract of the library's IndexAny at a blank, a tab, a semicolon, for every text: what is no letter of theirs is not found.
-/
import Derived.Test.YtdldoklkenhopaaGreatDoorSet2
import Derived.Lib.AsciiSet
import Derived.Lib.IndexAny
import Derived.Laws.RangeString
import Derived.Laws.Runes
import Derived.Deep.DeepCutAuto
import Derived.BigQuiet
import Derived.Deep.QuietTactic
import Derived.Deep.LoopGhost
import Derived.WalkMore
namespace Go.Proofs.YtdldoklkenhopaaGreatDoor.Ch
open Go.RowKit Go.PlainAid
open Hx Fi
set_option linter.unusedVariables false
set_option maxRecDepth 20000
set_option linter.unusedSimpArgs false

/-! ### what a text's runes are -/
theorem get_bang (s : ByteArray) (k : Nat) (h : k < s.size) : (s.get! k).toNat = (bt s k).toNat := by
  have e : s.get! k = s[k] := by
    simp [ByteArray.get!, getElem!_pos, h]
    rfl
  rw [bt_get s k h, e]; rfl
/-- a rune that begins with no letter is none, nor is one of its bytes -/
structure Far (s : ByteArray) (k r n : Nat) : Prop where
  hr : 128 ≤ r
  hv : Utf8.valid (r : Int) = true
  hn : 1 ≤ n
  le : k + n ≤ s.size
  all : ∀ j, k ≤ j → j < k + n → 128 ≤ bt s j
theorem two_valid {a b : Nat} : Utf8.valid (((a % 32) * 64 + b % 64 : Nat) : Int) = true := by
  have a1 : a % 32 < 32 := Nat.mod_lt _ (by decide)
  have a2 : b % 64 < 64 := Nat.mod_lt _ (by decide)
  generalize a % 32 = x at *
  generalize b % 64 = y at *
  unfold Utf8.valid
  simp only [Bool.or_eq_true, Bool.and_eq_true, decide_eq_true_eq]
  left; omega
theorem decode_far (s : ByteArray) (k : Nat) (h : k < s.size) (h1 : 128 ≤ bt s k) : Far s k (Utf8.decode s k).1 (Utf8.decode s k).2 := by
  have hb0 : (s.get! k).toNat = (bt s k).toNat := get_bang s k h
  have hle : bt s k ≤ 255 := bt_le s k
  have one : Far s k Utf8.runeError 1 := ⟨by decide +kernel, by decide +kernel, Nat.le_refl _, by omega, fun j h2 h3 => by rw [show j = k by omega]; exact h1⟩
  have cont : ∀ d, (decide (k + d < s.size) && (s.get! (k + d)).toNat / 64 == 2) = true → k + d < s.size ∧ 128 ≤ bt s (k + d) := by
    intro d hd
    simp only [Bool.and_eq_true, decide_eq_true_eq, beq_iff_eq] at hd
    have := get_bang s (k + d) hd.1
    have h0 := bt_nonneg s (k + d)
    refine ⟨hd.1, ?_⟩
    rw [this] at hd
    omega
  have c1 := cont 1
  have c2 := cont 2
  have c3 := cont 3
  have hn : ¬ (bt s k).toNat < 128 := by omega
  clear cont
  unfold Utf8.decode
  simp only [Nat.add_zero, hb0]
  generalize (decide (k + 1 < s.size) && (s.get! (k + 1)).toNat / 64 == 2) = q1 at *
  generalize (decide (k + 2 < s.size) && (s.get! (k + 2)).toNat / 64 == 2) = q2 at *
  generalize (decide (k + 3 < s.size) && (s.get! (k + 3)).toNat / 64 == 2) = q3 at *
  generalize (s.get! (k + 1)).toNat = x1 at *
  generalize (s.get! (k + 2)).toNat = x2 at *
  generalize (s.get! (k + 3)).toNat = x3 at *
  generalize (bt s k).toNat = x0 at *
  rw [if_neg hn]
  by_cases t1 : (x0 / 32 == 6 && q1) = true
  · rw [if_pos t1]
    simp only [Bool.and_eq_true] at t1
    have d1 := c1 t1.2
    by_cases t2 : x0 % 32 * 64 + x1 % 64 ≥ 128
    · rw [if_pos t2]
      refine ⟨t2, two_valid, by show 1 ≤ 2; decide, by show k + 2 ≤ s.size; omega, fun j h2 h3 => ?_⟩
      rcases (show j = k ∨ j = k + 1 by omega) with rfl | rfl
      · exact h1
      · exact d1.2
    · rw [if_neg t2]; exact one
  · rw [if_neg t1]
    by_cases t2 : (x0 / 16 == 14 && q1 && q2) = true
    · rw [if_pos t2]
      simp only [Bool.and_eq_true] at t2
      have d1 := c1 t2.1.2
      have d2 := c2 t2.2
      generalize x0 % 16 * 4096 + x1 % 64 * 64 + x2 % 64 = y
      by_cases t3 : (decide (y ≥ 2048) && Utf8.valid (y : Int)) = true
      · rw [if_pos t3]
        simp only [Bool.and_eq_true, decide_eq_true_eq] at t3
        refine ⟨by show 128 ≤ y; omega, t3.2, by show 1 ≤ 3; decide, by show k + 3 ≤ s.size; omega, fun j h2 h3 => ?_⟩
        rcases (show j = k ∨ j = k + 1 ∨ j = k + 2 by omega) with rfl | rfl | rfl
        · exact h1
        · exact d1.2
        · exact d2.2
      · rw [if_neg t3]; exact one
    · rw [if_neg t2]
      by_cases t3 : (x0 / 8 == 30 && q1 && q2 && q3) = true
      · rw [if_pos t3]
        simp only [Bool.and_eq_true] at t3
        have d1 := c1 t3.1.1.2
        have d2 := c2 t3.1.2
        have d3 := c3 t3.2
        generalize x0 % 8 * 262144 + x1 % 64 * 4096 + x2 % 64 * 64 + x3 % 64 = y
        by_cases t4 : (decide (y ≥ 65536) && Utf8.valid (y : Int)) = true
        · rw [if_pos t4]
          simp only [Bool.and_eq_true, decide_eq_true_eq] at t4
          refine ⟨by show 128 ≤ y; omega, t4.2, by show 1 ≤ 4; decide, by show k + 4 ≤ s.size; omega, fun j h2 h3 => ?_⟩
          rcases (show j = k ∨ j = k + 1 ∨ j = k + 2 ∨ j = k + 3 by omega) with rfl | rfl | rfl | rfl
          · exact h1
          · exact d1.2
          · exact d2.2
          · exact d3.2
        · rw [if_neg t4]; exact one
      · rw [if_neg t3]; exact one
theorem decode_near (s : ByteArray) (k : Nat) (h : k < s.size) (h1 : bt s k < 128) : Utf8.decode s k = ((bt s k).toNat, 1) := by
  have e := bt_get s k h
  have := decode_ascii s k h (by omega)
  rw [this, e]; rfl
/-! ### a walk over a text's runes -/
def stepIt (w : World) (g : Nat) (s : ByteArray) (k : Nat) : World := { w with heap := w.heap.setIfInBounds g (.stringIter s k) }
section
variable {P : Program} {w : World} {g : Nat} {s : ByteArray} {k : Nat}
theorem run_next_rune (hg : w.heap[g]? = some (.stringIter s k)) (h : k < s.size) {r n : Nat} (hd : Utf8.decode s k = (r, n)) (ty : TypeId) :
    (Instr.next (.pointer (some ⟨g, 0, none⟩)) true ty).run P w = .ok (.tuple #[.bool true, .int .i64 (k : Int), .int .i32 (r : Int)]) (stepIt w g s (k + n)) := by
  simp only [Instr.next, getObj, setObj, Sem.run_bind, Sem.run, hg, Result.andThen, h, if_true, hd]
  simp [goInt, Sem.run, stepIt]
theorem run_next_over (hg : w.heap[g]? = some (.stringIter s k)) (h : ¬ k < s.size) (ty : TypeId) :
    (Instr.next (.pointer (some ⟨g, 0, none⟩)) true ty).run P w = .ok (.tuple #[.bool false]) w := by
  simp [Instr.next, getObj, Sem.run, hg, h]
theorem stepIt_at (hg : w.heap[g]? = some (.stringIter s k)) (j : Nat) : (stepIt w g s j).heap[g]? = some (.stringIter s j) := by
  have := (Array.getElem?_eq_some_iff.1 hg).1
  simp [stepIt, this]
theorem stepIt_below {N : Nat} {w0 : World} (h : Below N w0 w) (hN : N ≤ g) (j : Nat) : Below N w0 (stepIt w g s j) :=
  h.trans ⟨rfl, rfl, rfl, by simp [stepIt], fun k hk => by simp [stepIt, Array.getElem?_setIfInBounds]; intro e; omega⟩
theorem stepIt_other {B T : Nat} {cs : Array Value} (h : At w B T cs) (hg : w.heap[g]? = some (.stringIter s k)) (j : Nat) : At (stepIt w g s j) B T cs := by
  refine h.same ?_
  have hne : g ≠ B := fun e => by
    have := h.heap
    rw [← e, hg] at this
    cases this
  simp [stepIt, Array.getElem?_setIfInBounds, hne]
end
/-- the three letters -/
def sepS : ByteArray := ⟨#[32, 9, 59]⟩
def sepL : List UInt8 := [32, 9, 59]
def sepN (c : Int) : Bool := c == 32 || c == 9 || c == 59
theorem sep_is (c : UInt8) : sepL.contains c = sepN (c.toNat : Int) := by
  have : ∀ m : Fin 256, sepL.contains (UInt8.ofNat m.val) = sepN (m.val : Int) := by decide +kernel
  have h := this ⟨c.toNat, c.toNat_lt⟩
  simp only at h
  rwa [UInt8.ofNat_toNat] at h
theorem sep_far {c : Int} (h : 128 ≤ c) : sepN c = false := by
  have a : ¬ c = 32 := by omega
  have b : ¬ c = 9 := by omega
  have d : ¬ c = 59 := by omega
  simp [sepN, a, b, d]
theorem first_sep : ∀ c : Fin 128, decide (0 ≤ firstIdx ⟨#[32, 9, 59]⟩ ((c.val : Int)).toNat.toUInt8) = sepN (c.val : Int) := by decide +kernel
theorem first_far (l : List UInt8) (h : ∀ b ∈ l, b.toNat < 128) (c : UInt8) (hc : 128 ≤ c.toNat) : firstIdx ⟨l.toArray⟩ c = -1 := by
  unfold firstIdx
  have e : (List.range (⟨l.toArray⟩ : ByteArray).size).find? (fun i => (⟨l.toArray⟩ : ByteArray)[i]! == c) = none := by
    rw [List.find?_eq_none]
    intro i hi
    have hi' : i < (⟨l.toArray⟩ : ByteArray).size := by simpa using hi
    rw [getElem!_pos _ i hi']
    simp only [beq_iff_eq]
    intro e
    have hm : (⟨l.toArray⟩ : ByteArray)[i] ∈ l := by
      show l.toArray[i]'_ ∈ l
      simp
    have := h _ hm
    rw [e] at this
    omega
  rw [e]
/-! ### a rune among the three letters -/
set_option maxHeartbeats 1000000 in
theorem rune_near (c : Int) (w : World) (h0 : 0 ≤ c) (h1 : c < 128) :
    Calls Tryz.prog 108 #[.string ⟨#[32, 9, 59]⟩, .int .i32 c] w fun e w' => ∃ v : Int, e = .returned (.int .i64 v) ∧ decide (0 ≤ v) = sepN c ∧ Below w.heap.size w w' := by
  have r := fun w => indexByte_any ⟨#[32, 9, 59]⟩ c w
  have hv := first_sep ⟨c.toNat, by omega⟩
  simp only at hv
  rw [show ((c.toNat : Nat) : Int) = c by omega] at hv
  have HV := Lib.hid hv
  clear hv
  generalize firstIdx ⟨#[32, 9, 59]⟩ c.toNat.toUInt8 = z at *
  go_enter Tryz.func108, Tryz.ntmps108
  go_wp2_with fail
  refine (r _).mono ?_
  rintro e w' ⟨rfl, rfl⟩
  clear r
  go_wp2
  go_ret
  exact ⟨z, rfl, HV.out, Below.refl _ _⟩
set_option maxHeartbeats 4000000 in
theorem rune_error (w : World) :
    Calls Tryz.prog 108 #[.string ⟨#[32, 9, 59]⟩, .int .i32 65533] w fun e w' => e = .returned (.int .i64 (-1)) ∧ Below w.heap.size w w' := by
  have B0 : Below w.heap.size w (w.iter ⟨#[32, 9, 59]⟩ 0) := (Below.refl _ _).alloc (Nat.le_refl _) _
  have H0 := World.iter_heap w ⟨#[32, 9, 59]⟩ 0
  go_enter Tryz.func108, Tryz.ntmps108
  go_wp2
  generalize w.iter ⟨#[32, 9, 59]⟩ 0 = w0 at B0 H0 ⊢
  go_loopg [5, 6] 3 (fun g _ _ wr => ∃ k : Nat, k + g = 3 ∧ wr.heap[w.heap.size]? = some (.stringIter ⟨#[32, 9, 59]⟩ k) ∧ Below w.heap.size w wr)
  case atStart => exact ⟨0, by omega, H0, B0⟩
  case round =>
    clear H0 B0
    obtain ⟨k, hk, hh, hb⟩ := hrel
    cases gk with
    | zero =>
      obtain rfl : k = 3 := by omega
      have nx := fun ty => run_next_over (P := Tryz.prog) hh (by decide) ty
      go_wp2
      go_ret
      exact ⟨rfl, hb⟩
    | succ g =>
      have hd : ∃ r : Nat, Utf8.decode ⟨#[32, 9, 59]⟩ k = (r, 1) ∧ ((r : Int) == 65533) = false := by
        rcases (show k = 0 ∨ k = 1 ∨ k = 2 by omega) with rfl | rfl | rfl
        · exact ⟨32, by decide, by decide⟩
        · exact ⟨9, by decide, by decide⟩
        · exact ⟨59, by decide, by decide⟩
      obtain ⟨r, hd, hr⟩ := hd
      have nx := fun ty => run_next_rune (P := Tryz.prog) hh (by show k < 3; omega) hd ty
      have H2 := stepIt_at hh (k + 1)
      have B2 := stepIt_below hb (Nat.le_refl _) (s := ⟨#[32, 9, 59]⟩) (k + 1)
      clear hh hb hd
      generalize stepIt wr w.heap.size ⟨#[32, 9, 59]⟩ (k + 1) = w2 at *
      go_wp2
      go_roundg g
      case measure => omega
      case rel => exact ⟨k + 1, by omega, H2, B2⟩
theorem valid_yes (r : Int) (w : World) (h : Utf8.valid r = true) :
    Calls Tryz.prog 115 #[.int .i32 r] w fun e w' => e = .returned (.bool true) ∧ w = w' := by
  unfold Utf8.valid at h
  simp only [Bool.or_eq_true, Bool.and_eq_true, decide_eq_true_eq] at h
  rcases h with ⟨h1, h2⟩ | ⟨h1, h2⟩
  · go_enter Tryz.func115, Tryz.ntmps115
    go_wp2
    all_goals go_ret
    all_goals exact ⟨rfl, rfl⟩
  · have h3 : (0 : Int) ≤ r := by omega
    have h4 : ¬ r < 55296 := by omega
    have h5 : (57343 : Int) < r := by omega
    go_enter Tryz.func115, Tryz.ntmps115
    go_wp2
    all_goals go_ret
    all_goals exact ⟨rfl, rfl⟩
set_option maxHeartbeats 4000000 in
theorem rune_far (r : Int) (w : World) (h1 : 128 ≤ r) (h2 : Utf8.valid r = true) (h3 : r ≠ 65533) :
    Calls Tryz.prog 108 #[.string ⟨#[32, 9, 59]⟩, .int .i32 r] w fun e w' => e = .returned (.int .i64 (-1)) ∧ Below w.heap.size w w' := by
  have vy := fun w => valid_yes r w h2
  obtain ⟨e1, e2, e3⟩ := encode_facts r h2 h1
  have hr : r ≤ 1114111 := by
    unfold Utf8.valid at h2
    simp only [Bool.or_eq_true, Bool.and_eq_true, decide_eq_true_eq] at h2
    omega
  have ne : (r == 65533) = false := beq_eq_false_iff_ne.2 h3
  obtain ⟨t, ht⟩ : ∃ t, Utf8.encode r = t := ⟨_, rfl⟩
  rw [ht] at e1 e2 e3
  obtain ⟨m, hm⟩ : ∃ m, t.size = m + 1 := ⟨t.size - 1, by omega⟩
  have hb := get_bt t
  have e4 : 128 ≤ bt t m := by
    rw [bt_get t m (by omega)]
    have := e3 (by omega)
    simp only [hm, Nat.add_sub_cancel] at this
    omega
  have b1 := bt_le t m
  have F1 : firstIdx ⟨#[59]⟩ (bt t m).toNat.toUInt8 = -1 := first_far [59] (by decide) _ (by rw [UInt8.toNat_ofNat']; omega)
  have F2 : firstIdx ⟨#[]⟩ (bt t m).toNat.toUInt8 = -1 := first_far [] (by decide) _ (by rw [UInt8.toNat_ofNat']; omega)
  have r1 : ∀ w, Calls Tryz.prog 68 #[.string ⟨#[59]⟩, .int .u8 (bt t m)] w fun e w' => e = .returned (.int .i64 (-1)) ∧ w' = w := fun w => by
    have := indexByte_any ⟨#[59]⟩ (bt t m) w
    rw [F1] at this
    exact this.mono fun _ _ ⟨h, g⟩ => ⟨h, g.symm⟩
  have r2 : ∀ w, Calls Tryz.prog 68 #[.string ⟨#[]⟩, .int .u8 (bt t m)] w fun e w' => e = .returned (.int .i64 (-1)) ∧ w' = w := fun w => by
    have := indexByte_any ⟨#[]⟩ (bt t m) w
    rw [F2] at this
    exact this.mono fun _ _ ⟨h, g⟩ => ⟨h, g.symm⟩
  have g9 : (9 != bt t m) = true := by rw [bne_iff_ne]; omega
  have g59 : (59 != bt t m) = true := by rw [bne_iff_ne]; omega
  have cv : ∀ w, (convert 21 9 (.int .i32 r)).run Tryz.prog w = .ok (.string t) w := fun w => by
    rw [run_convert_int_string w 21 9 .i32 r (by kernel_rfl) Tryz.underlying9, ht]
  clear F1 F2 e3 h2 h3 ht
  rcases (show m = 1 ∨ m = 2 ∨ m = 3 by omega) with rfl | rfl | rfl
  · have hs : (t.size : Int) - 1 = 1 := by omega
    have ht2 : (1 : Int) < (t.size : Int) := by omega
    have ht3 : 1 < t.size := by omega
    have c1 : ∀ h, ((⟨#[32, 9, 59]⟩ : ByteArray)[1]'h).toNat = 9 := fun _ => rfl
    have q2 : IntKind.i64.wrap 2 = 2 := by decide +kernel
    have x2 : (⟨#[32, 9, 59]⟩ : ByteArray).extract 2 3 = ⟨#[59]⟩ := by decide +kernel
    clear hm e1 e2
    go_enter Tryz.func108, Tryz.ntmps108
    go_wp2_with fail
    refine (vy _).mono ?_
    rintro e w' ⟨rfl, rfl⟩
    clear vy
    go_wp2
    go_step3
    go_wp2
    go_loop [9, 10] (fun a b => a = .int .i64 1 ∧ b = .int .i64 0) (fun _ _ => 0)
    case atStart => exact ⟨rfl, rfl⟩
    case round =>
      obtain ⟨rfl, rfl⟩ := hrel
      go_wp2_with fail
      go_step3
      go_wp2_with fail
      go_quiet (fail)
      have BQ : Below w.heap.size w (w.drewN nq) := ⟨rfl, rfl, rfl, Nat.le_refl _, fun _ _ => rfl⟩
      generalize w.drewN nq = wq at *
      go_wp2_with fail
      go_quiet ((go_at_call 68; exact Calls.quiet_of_same (r1 _)))
      go_wp2
      simp +zetaDelta only [Exit.inBlock, Exit.then, Exit.noGoto]
      go_ret
      exact ⟨rfl, BQ.trans ⟨rfl, rfl, rfl, Nat.le_refl _, fun _ _ => rfl⟩⟩
  · have hs : (t.size : Int) - 1 = 2 := by omega
    have ht2 : (2 : Int) < (t.size : Int) := by omega
    have ht3 : 2 < t.size := by omega
    have c1 : ∀ h, ((⟨#[32, 9, 59]⟩ : ByteArray)[2]'h).toNat = 59 := fun _ => rfl
    have q2 : IntKind.i64.wrap 3 = 3 := by decide +kernel
    have x2 : (⟨#[32, 9, 59]⟩ : ByteArray).extract 3 3 = ⟨#[]⟩ := by decide +kernel
    clear hm e1 e2
    go_enter Tryz.func108, Tryz.ntmps108
    go_wp2_with fail
    refine (vy _).mono ?_
    rintro e w' ⟨rfl, rfl⟩
    clear vy
    go_wp2
    go_step3
    go_wp2
    go_loop [9, 10] (fun a b => a = .int .i64 2 ∧ b = .int .i64 0) (fun _ _ => 0)
    case atStart => exact ⟨rfl, rfl⟩
    case round =>
      obtain ⟨rfl, rfl⟩ := hrel
      go_wp2_with fail
      go_step3
      go_wp2_with fail
      go_quiet (fail)
      have BQ : Below w.heap.size w (w.drewN nq) := ⟨rfl, rfl, rfl, Nat.le_refl _, fun _ _ => rfl⟩
      generalize w.drewN nq = wq at *
      go_wp2_with fail
      go_quiet ((go_at_call 68; exact Calls.quiet_of_same (r2 _)))
      go_wp2
      simp +zetaDelta only [Exit.inBlock, Exit.then, Exit.noGoto]
      go_ret
      exact ⟨rfl, BQ.trans ⟨rfl, rfl, rfl, Nat.le_refl _, fun _ _ => rfl⟩⟩
  · have hs : (t.size : Int) - 1 = 3 := by omega
    clear hm e1 e2
    go_enter Tryz.func108, Tryz.ntmps108
    go_wp2_with fail
    refine (vy _).mono ?_
    rintro e w' ⟨rfl, rfl⟩
    clear vy
    go_wp2
    go_step3
    go_wp2
    go_loop [9, 10] (fun a b => a = .int .i64 3 ∧ b = .int .i64 0) (fun _ _ => 0)
    case atStart => exact ⟨rfl, rfl⟩
    case round =>
      obtain ⟨rfl, rfl⟩ := hrel
      go_wp2_with fail
      repeat (rw [Exit.noGoto_ret])
      go_ret
      exact ⟨rfl, Below.refl _ _⟩
end Go.Proofs.YtdldoklkenhopaaGreatDoor.Ch
