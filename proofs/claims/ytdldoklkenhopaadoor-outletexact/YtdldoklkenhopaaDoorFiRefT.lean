/-
  Contract of IsToken of the document's answers.
-/
import Derived.Test.YtdldoklkenhopaaDoorFiRef
namespace Go.Proofs.YtdldoklkenhopaaDoor.Fi
open Go.RowKit Go.PlainAid
open Hx
set_option linter.unusedVariables false
set_option maxRecDepth 20000
set_option linter.unusedSimpArgs false

def marksL : List Int := [33, 35, 36, 37, 38, 39, 42, 43, 45, 46, 94, 95, 96, 124, 126]
def baseN (c : Int) : Bool := decide (97 ≤ c ∧ c ≤ 122) || decide (65 ≤ c ∧ c ≤ 90) || decide (48 ≤ c ∧ c ≤ 57)
/-- as far as k of the marks go -/
def okN (c : Int) (k : Nat) : Bool := baseN c || (marksL.take k).contains c
theorem okN_end (c : Int) : okN c 15 = tokN c := rfl
def marksB : ByteArray := ⟨#[33, 35, 36, 37, 38, 39, 42, 43, 45, 46, 94, 95, 96, 124, 126]⟩
theorem marks_at : ∀ k : Fin 15, marksL.take (k.val + 1) = marksL.take k.val ++ [((marksB[k.val]'(by have := k.isLt; exact this)).toNat : Int)] := by decide
theorem okN_yes {c : Int} {k : Nat} (h : okN c k = true) : okN c (k + 1) = true := by
  unfold okN at h ⊢
  rw [Bool.or_eq_true] at h ⊢
  rcases h with h | h
  · exact .inl h
  · right
    rw [List.contains_iff_mem] at h ⊢
    exact List.take_subset_take_left _ (Nat.le_succ k) h
theorem okN_no {c : Int} {k : Nat} (hk : k < 15) (h : okN c k = false) : okN c (k + 1) = (((marksB[k]'hk).toNat : Int) == c) := by
  unfold okN at h ⊢
  rw [Bool.or_eq_false_iff] at h
  rw [h.1, Bool.false_or, marks_at ⟨k, hk⟩]
  have h2 : c ∉ marksL.take k := by rw [← List.contains_iff_mem, h.2]; simp
  rw [Bool.eq_iff_iff, List.contains_iff_mem, List.mem_append, beq_iff_eq]
  simp [h2, eq_comm]
theorem base_yes {c : Int} (h : (97 ≤ c ∧ c ≤ 122) ∨ (65 ≤ c ∧ c ≤ 90) ∨ (48 ≤ c ∧ c ≤ 57)) : okN c 0 = true := by
  unfold okN baseN
  rcases h with h | h | h
  · rw [decide_eq_true h]; rfl
  · rw [decide_eq_true h, Bool.or_true]; rfl
  · rw [decide_eq_true h, Bool.or_true]; rfl
theorem base_no {c : Int} (h1 : ¬ (97 ≤ c ∧ c ≤ 122)) (h2 : ¬ (65 ≤ c ∧ c ≤ 90)) (h3 : ¬ (48 ≤ c ∧ c ≤ 57)) : okN c 0 = false := by
  unfold okN baseN
  rw [decide_eq_false h1, decide_eq_false h2, decide_eq_false h3]; rfl
theorem seven (c : Int) : (c < 48) ∨ (48 ≤ c ∧ c ≤ 57) ∨ (57 < c ∧ c < 65) ∨ (65 ≤ c ∧ c ≤ 90) ∨ (90 < c ∧ c < 97) ∨ (97 ≤ c ∧ c ≤ 122) ∨ 122 < c := by omega
set_option maxRecDepth 200000 in
set_option maxHeartbeats 4000000 in
theorem refIsToken_any (s : ByteArray) (w : World) (hs : s.size ≤ 4611686018427387904) :
    Calls Tryd.prog 34 #[.string s] w fun e w' => e = .returned (.bool (isTok (ls s))) ∧ w = w' := by
  have hg := get_bt s
  go_enter Tryd.func34, Tryd.ntmps34
  go_wp2
  go_loop [3] (fun i => ∃ k : Nat, k ≤ s.size ∧ i = .int .i64 k ∧ AllTo tokN s k) (fun i => s.size - (intOf i).toNat)
  case atStart => exact ⟨0, Nat.zero_le _, rfl, AllTo.zero _ s⟩
  case round =>
    obtain ⟨k, hk, rfl, hd⟩ := hrel
    by_cases hlt : k < s.size
    · have l1 : (k : Int) < (s.size : Int) := by omega
      have HY := Lib.hid (fun h : tokN (bt s k) = true => hd.succ hlt h)
      have HN := Lib.hid (fun h : tokN (bt s k) = false => all_not hlt h)
      have LS := Lib.hid l1
      have HL := Lib.hid hlt
      obtain ⟨C, hC⟩ : ∃ C, C = bt s k := ⟨_, rfl⟩
      rw [← hC] at HY HN
      have hg2 : ∀ h, ((s[k]'h).toNat : Int) = C := fun h => by rw [hg k h, hC]
      clear hC hg hd
      have cs := seven C
      rcases cs with c1 | ⟨c1, c2⟩ | ⟨c1, c2⟩ | ⟨c1, c2⟩ | ⟨c1, c2⟩ | ⟨c1, c2⟩ | c1
      · have B0 := Lib.hid (show okN C 0 = false from base_no (by omega) (by omega) (by omega))
        go_wp2
        go_loop [5, 6] (fun o i => ∃ j : Nat, j ≤ 15 ∧ o = .bool (okN C j) ∧ i = .int .i64 j) (fun _ i => 15 - (intOf i).toNat)
        case atStart => exact ⟨0, Nat.zero_le _, by rw [B0.out] <;> (simp; omega), rfl⟩
        case round =>
          obtain ⟨j, hj, rfl, rfl⟩ := hrel
          by_cases hjl : j < 15
          · have j1 : (j : Int) < 15 := by omega
            cases ho : okN C j with
            | true =>
              have O2 := Lib.hid (okN_yes ho)
              clear ho
              go_wp2
              go_round
              case rel => exact ⟨j + 1, by omega, by rw [O2.out], by go_num⟩
              case measure => simp [intOf]; omega
            | false =>
              have O2 := okN_no hjl ho
              clear ho
              have gM : ∀ h, (((⟨#[33, 35, 36, 37, 38, 39, 42, 43, 45, 46, 94, 95, 96, 124, 126]⟩ : ByteArray)[j]'h).toNat : Int) = ((marksB[j]'hjl).toNat : Int) := fun _ => rfl
              generalize ((marksB[j]'hjl).toNat : Int) = M at gM O2
              cases hm : (M == C) with
              | true =>
                have O3 := Lib.hid (O2.trans hm)
                clear O2
                go_wp2
                go_round
                case rel => exact ⟨j + 1, by omega, by rw [O3.out], by go_num⟩
                case measure => simp [intOf]; omega
              | false =>
                have O3 := Lib.hid (O2.trans hm)
                clear O2
                go_wp2
                go_round
                case rel => exact ⟨j + 1, by omega, by rw [O3.out], by go_num⟩
                case measure => simp [intOf]; omega
          · have j1 : ¬ (j : Int) < 15 := by omega
            obtain rfl : j = 15 := by omega
            rw [okN_end]
            cases ht : tokN C with
            | true =>
              have HT := Lib.hid (HY.out ht)
              clear ht
              go_wp2
              go_round
              case rel => exact ⟨k + 1, by have := HL.out; omega, by go_num, HT.out⟩
              case measure => have := HL.out; simp [intOf]; omega
            | false =>
              have HT := Lib.hid (HN.out ht)
              clear ht
              go_wp2
              go_ret
              exact ⟨by rw [isTok_ne (by have := HL.out; omega), HT.out]; rfl, rfl⟩
      · have B0 := Lib.hid (show okN C 0 = true from base_yes (by omega))
        go_wp2
        go_loop [5, 6] (fun o i => ∃ j : Nat, j ≤ 15 ∧ o = .bool (okN C j) ∧ i = .int .i64 j) (fun _ i => 15 - (intOf i).toNat)
        case atStart => exact ⟨0, Nat.zero_le _, by rw [B0.out] <;> (simp; omega), rfl⟩
        case round =>
          obtain ⟨j, hj, rfl, rfl⟩ := hrel
          by_cases hjl : j < 15
          · have j1 : (j : Int) < 15 := by omega
            cases ho : okN C j with
            | true =>
              have O2 := Lib.hid (okN_yes ho)
              clear ho
              go_wp2
              go_round
              case rel => exact ⟨j + 1, by omega, by rw [O2.out], by go_num⟩
              case measure => simp [intOf]; omega
            | false =>
              have O2 := okN_no hjl ho
              clear ho
              have gM : ∀ h, (((⟨#[33, 35, 36, 37, 38, 39, 42, 43, 45, 46, 94, 95, 96, 124, 126]⟩ : ByteArray)[j]'h).toNat : Int) = ((marksB[j]'hjl).toNat : Int) := fun _ => rfl
              generalize ((marksB[j]'hjl).toNat : Int) = M at gM O2
              cases hm : (M == C) with
              | true =>
                have O3 := Lib.hid (O2.trans hm)
                clear O2
                go_wp2
                go_round
                case rel => exact ⟨j + 1, by omega, by rw [O3.out], by go_num⟩
                case measure => simp [intOf]; omega
              | false =>
                have O3 := Lib.hid (O2.trans hm)
                clear O2
                go_wp2
                go_round
                case rel => exact ⟨j + 1, by omega, by rw [O3.out], by go_num⟩
                case measure => simp [intOf]; omega
          · have j1 : ¬ (j : Int) < 15 := by omega
            obtain rfl : j = 15 := by omega
            rw [okN_end]
            cases ht : tokN C with
            | true =>
              have HT := Lib.hid (HY.out ht)
              clear ht
              go_wp2
              go_round
              case rel => exact ⟨k + 1, by have := HL.out; omega, by go_num, HT.out⟩
              case measure => have := HL.out; simp [intOf]; omega
            | false =>
              have HT := Lib.hid (HN.out ht)
              clear ht
              go_wp2
              go_ret
              exact ⟨by rw [isTok_ne (by have := HL.out; omega), HT.out]; rfl, rfl⟩
      · have B0 := Lib.hid (show okN C 0 = false from base_no (by omega) (by omega) (by omega))
        go_wp2
        go_loop [5, 6] (fun o i => ∃ j : Nat, j ≤ 15 ∧ o = .bool (okN C j) ∧ i = .int .i64 j) (fun _ i => 15 - (intOf i).toNat)
        case atStart => exact ⟨0, Nat.zero_le _, by rw [B0.out] <;> (simp; omega), rfl⟩
        case round =>
          obtain ⟨j, hj, rfl, rfl⟩ := hrel
          by_cases hjl : j < 15
          · have j1 : (j : Int) < 15 := by omega
            cases ho : okN C j with
            | true =>
              have O2 := Lib.hid (okN_yes ho)
              clear ho
              go_wp2
              go_round
              case rel => exact ⟨j + 1, by omega, by rw [O2.out], by go_num⟩
              case measure => simp [intOf]; omega
            | false =>
              have O2 := okN_no hjl ho
              clear ho
              have gM : ∀ h, (((⟨#[33, 35, 36, 37, 38, 39, 42, 43, 45, 46, 94, 95, 96, 124, 126]⟩ : ByteArray)[j]'h).toNat : Int) = ((marksB[j]'hjl).toNat : Int) := fun _ => rfl
              generalize ((marksB[j]'hjl).toNat : Int) = M at gM O2
              cases hm : (M == C) with
              | true =>
                have O3 := Lib.hid (O2.trans hm)
                clear O2
                go_wp2
                go_round
                case rel => exact ⟨j + 1, by omega, by rw [O3.out], by go_num⟩
                case measure => simp [intOf]; omega
              | false =>
                have O3 := Lib.hid (O2.trans hm)
                clear O2
                go_wp2
                go_round
                case rel => exact ⟨j + 1, by omega, by rw [O3.out], by go_num⟩
                case measure => simp [intOf]; omega
          · have j1 : ¬ (j : Int) < 15 := by omega
            obtain rfl : j = 15 := by omega
            rw [okN_end]
            cases ht : tokN C with
            | true =>
              have HT := Lib.hid (HY.out ht)
              clear ht
              go_wp2
              go_round
              case rel => exact ⟨k + 1, by have := HL.out; omega, by go_num, HT.out⟩
              case measure => have := HL.out; simp [intOf]; omega
            | false =>
              have HT := Lib.hid (HN.out ht)
              clear ht
              go_wp2
              go_ret
              exact ⟨by rw [isTok_ne (by have := HL.out; omega), HT.out]; rfl, rfl⟩
      · have B0 := Lib.hid (show okN C 0 = true from base_yes (by omega))
        go_wp2
        go_loop [5, 6] (fun o i => ∃ j : Nat, j ≤ 15 ∧ o = .bool (okN C j) ∧ i = .int .i64 j) (fun _ i => 15 - (intOf i).toNat)
        case atStart => exact ⟨0, Nat.zero_le _, by rw [B0.out] <;> (simp; omega), rfl⟩
        case round =>
          obtain ⟨j, hj, rfl, rfl⟩ := hrel
          by_cases hjl : j < 15
          · have j1 : (j : Int) < 15 := by omega
            cases ho : okN C j with
            | true =>
              have O2 := Lib.hid (okN_yes ho)
              clear ho
              go_wp2
              go_round
              case rel => exact ⟨j + 1, by omega, by rw [O2.out], by go_num⟩
              case measure => simp [intOf]; omega
            | false =>
              have O2 := okN_no hjl ho
              clear ho
              have gM : ∀ h, (((⟨#[33, 35, 36, 37, 38, 39, 42, 43, 45, 46, 94, 95, 96, 124, 126]⟩ : ByteArray)[j]'h).toNat : Int) = ((marksB[j]'hjl).toNat : Int) := fun _ => rfl
              generalize ((marksB[j]'hjl).toNat : Int) = M at gM O2
              cases hm : (M == C) with
              | true =>
                have O3 := Lib.hid (O2.trans hm)
                clear O2
                go_wp2
                go_round
                case rel => exact ⟨j + 1, by omega, by rw [O3.out], by go_num⟩
                case measure => simp [intOf]; omega
              | false =>
                have O3 := Lib.hid (O2.trans hm)
                clear O2
                go_wp2
                go_round
                case rel => exact ⟨j + 1, by omega, by rw [O3.out], by go_num⟩
                case measure => simp [intOf]; omega
          · have j1 : ¬ (j : Int) < 15 := by omega
            obtain rfl : j = 15 := by omega
            rw [okN_end]
            cases ht : tokN C with
            | true =>
              have HT := Lib.hid (HY.out ht)
              clear ht
              go_wp2
              go_round
              case rel => exact ⟨k + 1, by have := HL.out; omega, by go_num, HT.out⟩
              case measure => have := HL.out; simp [intOf]; omega
            | false =>
              have HT := Lib.hid (HN.out ht)
              clear ht
              go_wp2
              go_ret
              exact ⟨by rw [isTok_ne (by have := HL.out; omega), HT.out]; rfl, rfl⟩
      · have B0 := Lib.hid (show okN C 0 = false from base_no (by omega) (by omega) (by omega))
        go_wp2
        go_loop [5, 6] (fun o i => ∃ j : Nat, j ≤ 15 ∧ o = .bool (okN C j) ∧ i = .int .i64 j) (fun _ i => 15 - (intOf i).toNat)
        case atStart => exact ⟨0, Nat.zero_le _, by rw [B0.out] <;> (simp; omega), rfl⟩
        case round =>
          obtain ⟨j, hj, rfl, rfl⟩ := hrel
          by_cases hjl : j < 15
          · have j1 : (j : Int) < 15 := by omega
            cases ho : okN C j with
            | true =>
              have O2 := Lib.hid (okN_yes ho)
              clear ho
              go_wp2
              go_round
              case rel => exact ⟨j + 1, by omega, by rw [O2.out], by go_num⟩
              case measure => simp [intOf]; omega
            | false =>
              have O2 := okN_no hjl ho
              clear ho
              have gM : ∀ h, (((⟨#[33, 35, 36, 37, 38, 39, 42, 43, 45, 46, 94, 95, 96, 124, 126]⟩ : ByteArray)[j]'h).toNat : Int) = ((marksB[j]'hjl).toNat : Int) := fun _ => rfl
              generalize ((marksB[j]'hjl).toNat : Int) = M at gM O2
              cases hm : (M == C) with
              | true =>
                have O3 := Lib.hid (O2.trans hm)
                clear O2
                go_wp2
                go_round
                case rel => exact ⟨j + 1, by omega, by rw [O3.out], by go_num⟩
                case measure => simp [intOf]; omega
              | false =>
                have O3 := Lib.hid (O2.trans hm)
                clear O2
                go_wp2
                go_round
                case rel => exact ⟨j + 1, by omega, by rw [O3.out], by go_num⟩
                case measure => simp [intOf]; omega
          · have j1 : ¬ (j : Int) < 15 := by omega
            obtain rfl : j = 15 := by omega
            rw [okN_end]
            cases ht : tokN C with
            | true =>
              have HT := Lib.hid (HY.out ht)
              clear ht
              go_wp2
              go_round
              case rel => exact ⟨k + 1, by have := HL.out; omega, by go_num, HT.out⟩
              case measure => have := HL.out; simp [intOf]; omega
            | false =>
              have HT := Lib.hid (HN.out ht)
              clear ht
              go_wp2
              go_ret
              exact ⟨by rw [isTok_ne (by have := HL.out; omega), HT.out]; rfl, rfl⟩
      · have B0 := Lib.hid (show okN C 0 = true from base_yes (by omega))
        go_wp2
        go_loop [5, 6] (fun o i => ∃ j : Nat, j ≤ 15 ∧ o = .bool (okN C j) ∧ i = .int .i64 j) (fun _ i => 15 - (intOf i).toNat)
        case atStart => exact ⟨0, Nat.zero_le _, by rw [B0.out] <;> (simp; omega), rfl⟩
        case round =>
          obtain ⟨j, hj, rfl, rfl⟩ := hrel
          by_cases hjl : j < 15
          · have j1 : (j : Int) < 15 := by omega
            cases ho : okN C j with
            | true =>
              have O2 := Lib.hid (okN_yes ho)
              clear ho
              go_wp2
              go_round
              case rel => exact ⟨j + 1, by omega, by rw [O2.out], by go_num⟩
              case measure => simp [intOf]; omega
            | false =>
              have O2 := okN_no hjl ho
              clear ho
              have gM : ∀ h, (((⟨#[33, 35, 36, 37, 38, 39, 42, 43, 45, 46, 94, 95, 96, 124, 126]⟩ : ByteArray)[j]'h).toNat : Int) = ((marksB[j]'hjl).toNat : Int) := fun _ => rfl
              generalize ((marksB[j]'hjl).toNat : Int) = M at gM O2
              cases hm : (M == C) with
              | true =>
                have O3 := Lib.hid (O2.trans hm)
                clear O2
                go_wp2
                go_round
                case rel => exact ⟨j + 1, by omega, by rw [O3.out], by go_num⟩
                case measure => simp [intOf]; omega
              | false =>
                have O3 := Lib.hid (O2.trans hm)
                clear O2
                go_wp2
                go_round
                case rel => exact ⟨j + 1, by omega, by rw [O3.out], by go_num⟩
                case measure => simp [intOf]; omega
          · have j1 : ¬ (j : Int) < 15 := by omega
            obtain rfl : j = 15 := by omega
            rw [okN_end]
            cases ht : tokN C with
            | true =>
              have HT := Lib.hid (HY.out ht)
              clear ht
              go_wp2
              go_round
              case rel => exact ⟨k + 1, by have := HL.out; omega, by go_num, HT.out⟩
              case measure => have := HL.out; simp [intOf]; omega
            | false =>
              have HT := Lib.hid (HN.out ht)
              clear ht
              go_wp2
              go_ret
              exact ⟨by rw [isTok_ne (by have := HL.out; omega), HT.out]; rfl, rfl⟩
      · have B0 := Lib.hid (show okN C 0 = false from base_no (by omega) (by omega) (by omega))
        go_wp2
        go_loop [5, 6] (fun o i => ∃ j : Nat, j ≤ 15 ∧ o = .bool (okN C j) ∧ i = .int .i64 j) (fun _ i => 15 - (intOf i).toNat)
        case atStart => exact ⟨0, Nat.zero_le _, by rw [B0.out] <;> (simp; omega), rfl⟩
        case round =>
          obtain ⟨j, hj, rfl, rfl⟩ := hrel
          by_cases hjl : j < 15
          · have j1 : (j : Int) < 15 := by omega
            cases ho : okN C j with
            | true =>
              have O2 := Lib.hid (okN_yes ho)
              clear ho
              go_wp2
              go_round
              case rel => exact ⟨j + 1, by omega, by rw [O2.out], by go_num⟩
              case measure => simp [intOf]; omega
            | false =>
              have O2 := okN_no hjl ho
              clear ho
              have gM : ∀ h, (((⟨#[33, 35, 36, 37, 38, 39, 42, 43, 45, 46, 94, 95, 96, 124, 126]⟩ : ByteArray)[j]'h).toNat : Int) = ((marksB[j]'hjl).toNat : Int) := fun _ => rfl
              generalize ((marksB[j]'hjl).toNat : Int) = M at gM O2
              cases hm : (M == C) with
              | true =>
                have O3 := Lib.hid (O2.trans hm)
                clear O2
                go_wp2
                go_round
                case rel => exact ⟨j + 1, by omega, by rw [O3.out], by go_num⟩
                case measure => simp [intOf]; omega
              | false =>
                have O3 := Lib.hid (O2.trans hm)
                clear O2
                go_wp2
                go_round
                case rel => exact ⟨j + 1, by omega, by rw [O3.out], by go_num⟩
                case measure => simp [intOf]; omega
          · have j1 : ¬ (j : Int) < 15 := by omega
            obtain rfl : j = 15 := by omega
            rw [okN_end]
            cases ht : tokN C with
            | true =>
              have HT := Lib.hid (HY.out ht)
              clear ht
              go_wp2
              go_round
              case rel => exact ⟨k + 1, by have := HL.out; omega, by go_num, HT.out⟩
              case measure => have := HL.out; simp [intOf]; omega
            | false =>
              have HT := Lib.hid (HN.out ht)
              clear ht
              go_wp2
              go_ret
              exact ⟨by rw [isTok_ne (by have := HL.out; omega), HT.out]; rfl, rfl⟩
    · have E := Lib.hid (hd.whole (by omega))
      have l1 : ¬ (k : Int) < (s.size : Int) := by omega
      by_cases h0 : s.size = 0
      · have e1 := toList_nil s h0
        have e2 := Lib.hid (isTok_nil h0)
        clear h0
        go_wp2
        go_ret
        exact ⟨by rw [e2.out]; rfl, rfl⟩
      · have e1 := toList_ne s (by omega)
        have e3 := toList_ne' s (by omega)
        have e2 := Lib.hid (isTok_ne (s := s) (by omega))
        clear h0
        go_wp2
        go_ret
        exact ⟨by rw [e2.out, E.out]; rfl, rfl⟩
end Go.Proofs.YtdldoklkenhopaaDoor.Fi
