/-
  Contracts of real.digits, real.Print and mancipleref05.Print: the text of every number; nothing that was there is changed.
-/
import Derived.Test.YtmfhokbognlhbaaRlArith
import Derived.Test.YtmfhokbognlhbaaHxHex
import Derived.Test.YtmfhokbognlhbaaHxDecs
import Derived.Test.YtmfhokbognlhbaaHxBack
import Derived.Test.YtmfhokbognlhbaaHxRefB
namespace Go.Proofs.Ytmfhokbognlhbaa.Rl
open Go.RowKit Go.PlainAid
open Hx
set_option linter.unusedVariables false

/-- the last k bytes of a number, the highest first -/
def bl : Nat → Nat → List UInt8
  | 0, _ => []
  | k + 1, x => bl k (x / 256) ++ [UInt8.ofNat x]
theorem bl_len : ∀ k x, (bl k x).length = k
  | 0, _ => rfl
  | k + 1, x => by simp [bl, bl_len k]
theorem byte_nat (x : Nat) : (UInt8.ofNat x).toNat = x % 256 := by rw [UInt8.toNat_ofNat']

structure DgInv (x : Nat) (w wr : World) (p R : Nat) : Prop where
  ds : ∃ ds, bl p R ++ ds = bl 8 x ∧ Room 59 w wr 8 p ds
theorem DgInv.step {x : Nat} {w wr : World} {q R : Nat} (h : DgInv x w wr (q + 1) R) (hq : q < 8) (v : Value) (hv : v = .int .u8 ((R % 256 : Nat) : Int)) :
    DgInv x w (wr.setCell ⟨w.heap.size, q, none⟩ v) q (R / 256) := by
  obtain ⟨ds, he, hr⟩ := h.ds
  refine ⟨UInt8.ofNat R :: ds, ?_, hr.store (by omega) (by omega) (UInt8.ofNat R) v (by rw [hv, byte_nat])⟩
  rw [← he]; simp [bl]
theorem DgInv.bel {x : Nat} {w wr : World} {p R : Nat} (h : DgInv x w wr p R) : Below w.heap.size w wr := by
  obtain ⟨ds, _, hr⟩ := h.ds; exact hr.bel
theorem DgInv.cell {x : Nat} {w wr : World} {p R : Nat} (h : DgInv x w wr p R) (j : Nat) (hj : j < 8) : ∃ v, wr.cell? ⟨w.heap.size, j, none⟩ = some v := by
  obtain ⟨ds, _, hr⟩ := h.ds; exact hr.cell j hj
theorem DgInv.frozen {x : Nat} {w wr : World} {p R : Nat} (h : DgInv x w wr p R) (j : Nat) : wr.frozen? ⟨w.heap.size, j, none⟩ = false := by
  obtain ⟨ds, _, hr⟩ := h.ds; exact hr.frozen j
theorem DgInv.conv {x : Nat} {w wr : World} {R : Nat} (h : DgInv x w wr 0 R) :
    (convert 54 9 (.slice (some ⟨w.heap.size, 0, none⟩) 8 8)).run Try.prog wr = .ok (.string ⟨(bl 8 x).toArray⟩) wr := by
  obtain ⟨ds, he, hr⟩ := h.ds
  simp only [bl, List.nil_append] at he
  have hl := hr.len
  have := run_convert_bytes_back wr 54 9 5 ⟨w.heap.size, 0, none⟩ 8 ds Try.underlying54 Try.underlying5 Try.underlying9 hr.bytes
  rw [hl] at this
  subst he
  simpa [bl] using this
theorem DgInv.init (x : Nat) (w : World) : DgInv x w (w.alloc (.cells #[.int .u8 0, .int .u8 0, .int .u8 0, .int .u8 0, .int .u8 0, .int .u8 0, .int .u8 0, .int .u8 0] 59)) 8 x :=
  ⟨[], by simp, ⟨_, heap_alloc_new w _, rfl, rfl⟩, (Below.refl _ _).alloc (Nat.le_refl _) _⟩

set_option maxHeartbeats 800000 in
theorem digits_any (x : Nat) (w : World) (hx : x < 18446744073709551616) :
    Calls Try.prog 44 #[.float .f64 x] w fun e w' => e = .returned (.string ⟨(hexL (bl 8 x)).toArray⟩) ∧ Below w.heap.size w w' := by
  have r1 := run_bits
  go_enter Try.func44, Try.ntmps44
  go_wp2
  go_loopw [3, 5] (fun b i wr => ∃ (p R : Nat) (z : Int), p ≤ 8 ∧ R < 18446744073709551616 ∧ b = .int .u64 R ∧ i = .int .i64 z ∧ z = (p : Int) - 1 ∧ DgInv x w wr p R) (fun _ i _ => (intOf i + 1).toNat)
  case atStart => exact ⟨8, x, 7, by omega, hx, rfl, rfl, by omega, DgInv.init x w⟩
  case round =>
    obtain ⟨p, R, z, hp, hR, rfl, rfl, hz, hinv⟩ := hrel
    clear r1
    cases p with
    | succ q =>
      obtain rfl : z = (q : Int) := by omega
      clear hz
      obtain ⟨v, hc⟩ := hinv.cell q (by omega)
      have hf := hinv.frozen q
      have hb : IntKind.u8.wrap (R : Int) = ((R % 256 : Nat) : Int) := by rw [IntKind.wrap_u8']; omega
      go_wp2
      have hn := hinv.step (by omega) (.int .u8 ((R % 256 : Nat) : Int)) rfl
      go_roundw
      case rel => exact ⟨q, R / 256, (q : Int) - 1, by omega, by omega, by go_num, by go_num, by omega, hn⟩
      case measure => simp [intOf]
    | zero =>
      obtain rfl : z = -1 := by omega
      clear hz
      have hcv := hinv.conv
      have hbel := hinv.bel
      have hsl := sliceArr Try.underlying59 wr w.heap.size 0 (by omega)
      go_wp2_with fail
      refine (hex_any _ _ (by rw [size_mk, bl_len]; omega)).mono ?_
      rintro e w1 ⟨rfl, hb1⟩
      go_wp2
      go_ret
      exact ⟨rfl, hbel.trans (hb1.mono hbel.size)⟩

/-- a number's text -/
def prt (x : Nat) : ByteArray := if cls (place x) = 1 then ⟨#[110, 97, 110]⟩ else if cls (place x) = 2 then ⟨#[45, 105, 110, 102]⟩ else if cls (place x) = 7 then ⟨#[105, 110, 102]⟩ else ⟨(hexL (bl 8 x)).toArray⟩
theorem print_any (x : Nat) (w : World) (hx : x < 18446744073709551616) :
    Calls Try.prog 26 #[.float .f64 x] w fun e w' => e = .returned (.string (prt x)) ∧ Below w.heap.size w w' := by
  have c := class_any x w hx
  have d := digits_any x w hx
  unfold prt
  generalize cls (place x) = k at *
  generalize (⟨(hexL (bl 8 x)).toArray⟩ : ByteArray) = t at *
  by_cases h1 : k = 1
  · subst h1
    go_enter Try.func26, Try.ntmps26
    go_wp2_with fail
    refine c.mono ?_
    rintro e w' ⟨rfl, rfl⟩
    clear c d
    go_wp2
    all_goals go_ret
    all_goals exact ⟨rfl, Below.refl _ _⟩
  rw [if_neg h1]
  by_cases h2 : k = 2
  · subst h2
    go_enter Try.func26, Try.ntmps26
    go_wp2_with fail
    refine c.mono ?_
    rintro e w' ⟨rfl, rfl⟩
    clear c d
    go_wp2
    all_goals go_ret
    all_goals exact ⟨rfl, Below.refl _ _⟩
  rw [if_neg h2]
  by_cases h7 : k = 7
  · subst h7
    go_enter Try.func26, Try.ntmps26
    go_wp2_with fail
    refine c.mono ?_
    rintro e w' ⟨rfl, rfl⟩
    clear c d
    go_wp2
    all_goals go_ret
    all_goals exact ⟨rfl, Below.refl _ _⟩
  rw [if_neg h7]
  go_enter Try.func26, Try.ntmps26
  go_wp2_with fail
  refine c.mono ?_
  rintro e w' ⟨rfl, rfl⟩
  go_wp2_with fail
  refine d.mono ?_
  rintro e w1 ⟨rfl, hb⟩
  clear c d
  go_wp2
  all_goals go_ret
  all_goals exact ⟨rfl, hb⟩

/-- the first k bytes of a number, the highest first -/
def bh (x : Nat) : Nat → List UInt8
  | 0 => []
  | k + 1 => bh x k ++ [UInt8.ofNat (x / 2 ^ (8 * (7 - k)))]
theorem bh_bl (x : Nat) : bh x 8 = bl 8 x := by
  simp [bh, bl, Nat.div_div_eq_div_mul]
theorem bh_step (x j : Nat) : bytesV (bh x j) ++ [.int .u8 ((x : Int) / 2 ^ (8 * (7 - j)) % 256)] = bytesV (bh x (j + 1)) := by
  rw [bh, bytesV_append]
  congr 1
set_option maxHeartbeats 800000 in
theorem refprint_any (x : Nat) (w : World) (hx : x < 18446744073709551616) :
    Calls Try.prog 27 #[.float .f64 x] w fun e w' => e = .returned (.string (prt x)) ∧ Below w.heap.size w w' := by
  have c := refclass_any x w hx
  have r1 := run_bits
  unfold prt
  generalize cls (place x) = k at *
  by_cases h1 : k = 1
  · subst h1
    go_enter Try.func27, Try.ntmps27
    go_wp2_with fail
    refine c.mono ?_
    rintro e w' ⟨rfl, rfl⟩
    clear c
    go_wp2
    all_goals go_ret
    all_goals exact ⟨rfl, Below.refl _ _⟩
  rw [if_neg h1]
  by_cases h2 : k = 2
  · subst h2
    go_enter Try.func27, Try.ntmps27
    go_wp2_with fail
    refine c.mono ?_
    rintro e w' ⟨rfl, rfl⟩
    clear c
    go_wp2
    all_goals go_ret
    all_goals exact ⟨rfl, Below.refl _ _⟩
  rw [if_neg h2]
  by_cases h7 : k = 7
  · subst h7
    go_enter Try.func27, Try.ntmps27
    go_wp2_with fail
    refine c.mono ?_
    rintro e w' ⟨rfl, rfl⟩
    clear c
    go_wp2
    all_goals go_ret
    all_goals exact ⟨rfl, Below.refl _ _⟩
  rw [if_neg h7]
  obtain ⟨i0, hi, hz0, hz1, hz2⟩ := info_parts info5
  have b1 : (k == 1) = false := beq_eq_false_iff_ne.2 h1
  have b2 : (k == 2) = false := beq_eq_false_iff_ne.2 h2
  have b7 : (k == 7) = false := beq_eq_false_iff_ne.2 h7
  clear h1 h2 h7
  go_enter Try.func27, Try.ntmps27
  go_wp2_with fail
  refine c.mono ?_
  rintro e w' ⟨rfl, rfl⟩
  clear c
  go_wp2
  clear r1
  go_loopw [4, 5] (fun v i wr => ∃ (j : Nat) (z : Int), j ≤ 8 ∧ i = .int .i64 z ∧ z = 7 - (j : Int) ∧ wr.ownsRow w.heap.size 5 1 v j (bytesV (bh x j)) ∧ Below w.heap.size w wr) (fun _ i _ => (intOf i + 1).toNat)
  case atStart => exact ⟨0, 7, by omega, rfl, by omega, made0 w, (Below.refl _ _).alloc (Nat.le_refl _) _⟩
  case round =>
    obtain ⟨j, z, hj, rfl, hz, hown, hbel⟩ := hrel
    have hsz : w.heap.size ≤ wr.heap.size := hbel.size
    by_cases hlt : j < 8
    · have z0 : 0 ≤ z := by omega
      have z1 : z ≤ 7 := by omega
      go_wp2_with (at_builtin; refine wpList_append_lies _ rfl _ _ _ rfl w.heap.size 5 i0 _ 1 1 Try.underlying54 hi hz0 hz1 hz2 rfl (by omega) u4 j _ (by rfl) (hown.alloc _) ⟨wr.heap.size, 0, none⟩ 1 1 [_] (by rfl) (by rfl) (World.news_of_block (cs := #[_]) (t := 5) (fr := (0, 0)) (heap_alloc_new wr _)) (by simp [Value.oneCell']) (by omega) (by unfold maxLen; omega) (by omega) (by simp; omega) (wr.heap.size + 1) (by simp) ?_; intro g cap w1 hown1 hgrow hat hlt1)
      have L := (hbel.alloc hsz _).grown hgrow (by simp; omega) (fun j hj => (hown.lt j hj).1)
      rw [bh_step] at hown1
      go_roundw
      case rel => exact ⟨j + 1, z - 1, by omega, by go_num, by omega, hown1, L⟩
      case measure => simp [intOf]; omega
    · obtain rfl : j = 8 := by omega
      obtain rfl : z = -1 := by omega
      have hcv := conv_row hown
      rw [bh_bl] at hcv
      go_wp2_with fail
      refine (rhex_any _ _ (by rw [size_mk, bl_len]; omega)).mono ?_
      rintro e w1 ⟨rfl, hb1⟩
      go_wp2
      go_ret
      exact ⟨rfl, hbel.trans (hb1.mono hbel.size)⟩
end Go.Proofs.Ytmfhokbognlhbaa.Rl
