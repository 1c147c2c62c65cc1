/-
  Contract of hexa.Unhex: for every text of at most 2^40 bytes it answers the bytes of which the text is Hex, or ErrForm; nothing that was there is changed.
-/
import Derived.Test.YtmfhokbognlhbaaHxRow
namespace Go.Proofs.Ytmfhokbognlhbaa.Hx
open Go.RowKit Go.PlainAid
set_option linter.unusedVariables false

/-- the first k bytes are small digits of base 16 -/
def AllSm (s : ByteArray) (k : Nat) : Prop := ∀ j, j < k → sok (bt s j) = true
theorem AllSm.zero (s : ByteArray) : AllSm s 0 := fun _ h => absurd h (Nat.not_lt_zero _)
theorem AllSm.succ2 {s : ByteArray} {k : Nat} (h : AllSm s (2 * k)) (h0 : sok (bt s (2 * k)) = true) (h1 : sok (bt s (2 * k + 1)) = true) : AllSm s (2 * (k + 1)) := fun j hj => by
  by_cases e : j = 2 * k
  · subst e; exact h0
  · by_cases e' : j = 2 * k + 1
    · subst e'; exact h1
    · exact h j (by omega)
/-- the byte of two digits -/
def pair (s : ByteArray) (k : Nat) : UInt8 := UInt8.ofNat (sv (bt s (2 * k)) * 16 + sv (bt s (2 * k + 1))).toNat
theorem pair_nat (s : ByteArray) (k : Nat) : ((pair s k).toNat : Int) = sv (bt s (2 * k)) * 16 + sv (bt s (2 * k + 1)) := by
  have a := sv_bd (bt s (2 * k))
  have b := sv_bd (bt s (2 * k + 1))
  unfold pair
  rw [UInt8.toNat_ofNat']
  omega
/-- the bytes of the first k pairs of digits -/
def unTo (s : ByteArray) : Nat → List UInt8
  | 0 => []
  | k + 1 => unTo s k ++ [pair s k]
theorem unTo_len (s : ByteArray) : ∀ k, (unTo s k).length = k
  | 0 => rfl
  | k + 1 => by simp [unTo, unTo_len s k]
def UnForm (s : ByteArray) : Prop := s.size % 2 = 0 ∧ AllSm s s.size

theorem or16b (x d : Int) (h0 : 0 ≤ x) (h1 : x ≤ 15) (h2 : 0 ≤ d) (h3 : d ≤ 15) : bits .or .u8 (x * 16) d = x * 16 + d :=
  bits_join .u8 8 (by decide) wraps_u8 4 (x * 16) d (by omega) (by omega) (by omega) h2 (by omega) (by omega)

def UnhexPost (s : ByteArray) (w : World) (e : Ending) (w' : World) : Prop :=
  ((UnForm s ∧ e = .returned (.tuple #[.string ⟨(unTo s (s.size / 2)).toArray⟩, .int .i64 0])) ∨ (¬ UnForm s ∧ e = .returned (.tuple #[.string ⟨#[]⟩, .int .i64 3]))) ∧ Below w.heap.size w w'

theorem unhex_odd (s : ByteArray) (w : World) (hs : s.size ≤ 1099511627776) (h : s.size % 2 = 1) :
    Calls Try.prog 48 #[.string s] w (UnhexPost s w) := by
  have g : ((s.size : Int) % 2 != 0) = true := by rw [bne_iff_ne]; omega
  go_enter Try.func48, Try.ntmps48
  go_wp2
  go_ret2
  exact ⟨.inr ⟨fun h' => by have := h'.1; omega, rfl⟩, Below.refl _ _⟩

theorem unhex_step {B n : Nat} {v : Value} {w1 : World} (s : ByteArray) (k : Nat) (hown : w1.ownsRow B 5 1 v n (bytesV (unTo s k) ++ [.int .u8 (sv (bt s (2 * k)) * 16 + sv (bt s (2 * k + 1)))])) :
    w1.ownsRow B 5 1 v n (bytesV (unTo s (k + 1))) := by
  simp only [unTo, bytesV_append]
  rw [← pair_nat] at hown
  exact hown

set_option maxHeartbeats 800000 in
theorem unhex_even (s : ByteArray) (w : World) (hs : s.size ≤ 1099511627776) (h : s.size % 2 = 0) :
    Calls Try.prog 48 #[.string s] w (UnhexPost s w) := by
  obtain ⟨i0, hi, hz0, hz1, hz2⟩ := info_parts info5
  have hb := get_bt s
  have g : ((s.size : Int) % 2 != 0) = false := by simp; omega
  go_enter Try.func48, Try.ntmps48
  go_wp2_with (at_make; refine wpList_make_own _ rfl _ _ 54 rfl w.heap.size 5 i0 (.int .u8 0) 1 Try.underlying54 hi hz0 hz1 .i64 .i64 _ (s.size / 2) rfl rfl (by omega) (by rw [hz2]; omega) (by unfold maxLen; omega) (Nat.le_refl _) ?_; intro w0 hown0 hgrow0)
  go_loopw [4, 5] (fun v i wr => ∃ k : Nat, 2 * k ≤ s.size ∧ i = .int .i64 (2 * (k : Int)) ∧ AllSm s (2 * k) ∧ wr.ownsRow w.heap.size 5 1 v k (bytesV (unTo s k)) ∧ Below w.heap.size w wr) (fun _ i _ => s.size - (intOf i).toNat)
  case atStart => exact ⟨0, Nat.zero_le _, rfl, AllSm.zero s, by simpa [bytesV, unTo] using hown0, (Below.refl _ _).grown hgrow0 (Nat.le_refl _) (fun k h => by cases h)⟩
  case round =>
    obtain ⟨k, hk, rfl, ha, hown, hbel⟩ := hrel
    have hsz : w.heap.size ≤ wr.heap.size := hbel.size
    by_cases hlt : 2 * k < s.size
    · have p0 := bt_nonneg s (2 * k)
      have p1 := bt_le s (2 * k)
      have q0 := bt_nonneg s (2 * k + 1)
      have q1 := bt_le s (2 * k + 1)
      obtain ⟨v0, v1⟩ := sv_bd (bt s (2 * k))
      obtain ⟨y0, y1⟩ := sv_bd (bt s (2 * k + 1))
      have hlt' : 2 * k + 1 < s.size := by omega
      cases c1 : sok (bt s (2 * k)) with
      | false =>
        have C := Lib.hid c1
        go_wp2_with fail
        refine (small_any _ _ p0 p1).mono ?_
        rintro e w' ⟨rfl, rfl⟩
        go_wp2_with fail
        refine (small_any _ _ q0 q1).mono ?_
        rintro e w' ⟨rfl, rfl⟩
        go_wp2
        go_ret2
        exact ⟨.inr ⟨fun h => (by have := h.2 (2 * k) hlt; rw [C.out] at this; cases this), rfl⟩, hbel⟩
      | true =>
        have C1 := Lib.hid c1
        cases c2 : sok (bt s (2 * k + 1)) with
        | false =>
          have C := Lib.hid c2
          go_wp2_with fail
          refine (small_any _ _ p0 p1).mono ?_
          rintro e w' ⟨rfl, rfl⟩
          go_wp2_with fail
          refine (small_any _ _ q0 q1).mono ?_
          rintro e w' ⟨rfl, rfl⟩
          go_wp2
          go_ret2
          exact ⟨.inr ⟨fun h => (by have := h.2 (2 * k + 1) hlt'; rw [C.out] at this; cases this), rfl⟩, hbel⟩
        | true =>
          have C2 := Lib.hid c2
          have o16 := or16b _ _ v0 v1 y0 y1
          go_wp2_with fail
          refine (small_any _ _ p0 p1).mono ?_
          rintro e w' ⟨rfl, rfl⟩
          go_wp2_with fail
          refine (small_any _ _ q0 q1).mono ?_
          rintro e w' ⟨rfl, rfl⟩
          go_wp2_with (at_builtin; refine wpList_append_lies _ rfl _ _ _ rfl w.heap.size 5 i0 _ 1 1 Try.underlying54 hi hz0 hz1 hz2 rfl (by omega) u4 k _ (by rfl) (hown.alloc _) ⟨wr.heap.size, 0, none⟩ 1 1 [_] (by rfl) (by rfl) (World.news_of_block (cs := #[_]) (t := 5) (fr := (0, 0)) (heap_alloc_new wr _)) (by simp [Value.oneCell']) (by omega) (by unfold maxLen; omega) (by omega) (by simp; omega) (wr.heap.size + 1) (by simp) ?_; intro g cap w1 hown1 hgrow hat hlt1)
          have R := unhex_step s k hown1
          have L := (hbel.alloc hsz _).grown hgrow (by simp; omega) (fun j hj => (hown.lt j hj).1)
          go_roundw
          case rel => exact ⟨k + 1, by omega, by go_num, ha.succ2 C1.out C2.out, R, L⟩
          case measure => simp [intOf]; omega
    · have e : k = s.size / 2 := by omega
      have hf : UnForm s := ⟨h, fun j hj => ha j (by omega)⟩
      have hcv := conv_row hown
      rw [e] at hcv
      clear e
      go_wp2
      go_ret2
      exact ⟨.inl ⟨hf, rfl⟩, hbel⟩

theorem unhex_any (s : ByteArray) (w : World) (hs : s.size ≤ 1099511627776) : Calls Try.prog 48 #[.string s] w (UnhexPost s w) := by
  by_cases h : s.size % 2 = 0
  · exact unhex_even s w hs h
  · exact unhex_odd s w hs (by omega)
theorem unhex_yes (s : ByteArray) (w : World) (hs : s.size ≤ 1099511627776) (h : UnForm s) :
    Calls Try.prog 48 #[.string s] w fun e w' => e = .returned (.tuple #[.string ⟨(unTo s (s.size / 2)).toArray⟩, .int .i64 0]) ∧ Below w.heap.size w w' :=
  (unhex_any s w hs).mono fun e w' ⟨he, hw⟩ => ⟨he.elim (fun x => x.2) (fun x => absurd h x.1), hw⟩
theorem unhex_no (s : ByteArray) (w : World) (hs : s.size ≤ 1099511627776) (h : ¬ UnForm s) :
    Calls Try.prog 48 #[.string s] w fun e w' => e = .returned (.tuple #[.string ⟨#[]⟩, .int .i64 3]) ∧ Below w.heap.size w w' :=
  (unhex_any s w hs).mono fun e w' ⟨he, hw⟩ => ⟨he.elim (fun x => absurd x.1 h) (fun x => x.2), hw⟩
end Go.Proofs.Ytmfhokbognlhbaa.Hx
