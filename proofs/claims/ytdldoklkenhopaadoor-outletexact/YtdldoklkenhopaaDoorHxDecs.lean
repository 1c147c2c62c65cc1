/-
  Contracts of hexa.decimals, hexa.Dec and hexa.Hexnum: the digits of a number; nothing that was there is changed.
-/
import Derived.Test.YtdldoklkenhopaaDoorHxRow
namespace Go.Proofs.YtdldoklkenhopaaDoor.Hx
open Go.RowKit Go.PlainAid
set_option linter.unusedVariables false
set_option maxRecDepth 20000

/-- the digits of n in base b + 2 -/
def digL (b n : Nat) : List UInt8 := if h : n < b + 2 then [hd n] else digL b (n / (b + 2)) ++ [hd (n % (b + 2))]
termination_by n
decreasing_by exact Nat.div_lt_self (by omega) (by omega)
theorem digL_small (b n : Nat) (h : n < b + 2) : digL b n = [hd n] := by rw [digL, dif_pos h]
theorem digL_great (b n : Nat) (h : ¬ n < b + 2) : digL b n = digL b (n / (b + 2)) ++ [hd (n % (b + 2))] := by rw [digL, dif_neg h]
/-- the digits of n, none of 0 -/
def digT (b n : Nat) : List UInt8 := if n = 0 then [] else digL b n
theorem digT_zero (b : Nat) : digT b 0 = [] := rfl
theorem digT_pos (b n : Nat) (h : 0 < n) : digT b n = digL b n := by unfold digT; rw [if_neg (by omega)]
theorem digT_step (b n : Nat) (h : 0 < n) : digT b (n / (b + 2)) ++ [hd (n % (b + 2))] = digT b n := by
  rw [digT_pos b n h]
  by_cases c : n < b + 2
  · rw [Nat.div_eq_of_lt c, Nat.mod_eq_of_lt c, digL_small b n c]; rfl
  · rw [digL_great b n c, digT_pos b _ (Nat.div_pos (by omega) (by omega))]
theorem digL_step (b n : Nat) : digT b (n / (b + 2)) ++ [hd (n % (b + 2))] = digL b n := by
  by_cases c : n < b + 2
  · rw [Nat.div_eq_of_lt c, Nat.mod_eq_of_lt c, digL_small b n c]; rfl
  · rw [digL_great b n c, digT_pos b _ (Nat.div_pos (by omega) (by omega))]

/-- an array of the call's own, m bytes, that holds ds from p on -/
structure Room (T : Nat) (w wr : World) (m p : Nat) (ds : List UInt8) : Prop where
  blk : ∃ cur, wr.heap[w.heap.size]? = some (.cells cur T (0, 0)) ∧ cur.size = m ∧ cur.toList.drop p = bytesV ds
  bel : Below w.heap.size w wr
theorem Room.len {T : Nat} {w wr : World} {m p : Nat} {ds : List UInt8} (h : Room T w wr m p ds) : ds.length = m - p := by
  obtain ⟨cur, _, hs, hd⟩ := h.blk
  have := congrArg List.length hd
  simp [bytesV_len] at this
  omega
theorem Room.cell {T : Nat} {w wr : World} {m p : Nat} {ds : List UInt8} (h : Room T w wr m p ds) (j : Nat) (hj : j < m) : ∃ v, wr.cell? ⟨w.heap.size, j, none⟩ = some v := by
  obtain ⟨cur, hg, hs, _⟩ := h.blk
  rw [cell_of_row _ _ _ _ _ _ hg]
  exact ⟨cur[j]'(by omega), Array.getElem?_eq_getElem (by omega)⟩
theorem Room.frozen {T : Nat} {w wr : World} {m p : Nat} {ds : List UInt8} (h : Room T w wr m p ds) (j : Nat) : wr.frozen? ⟨w.heap.size, j, none⟩ = false := by
  obtain ⟨cur, hg, _, _⟩ := h.blk
  exact frozen_of_row _ _ _ _ _ hg
theorem heap_set (w : World) (B j : Nat) (v : Value) (cs : Array Value) (t : TypeId) (fr : Nat × Nat) (h : w.heap[B]? = some (.cells cs t fr)) :
    (w.setCell ⟨B, j, none⟩ v).heap[B]? = some (.cells (cs.setIfInBounds j v) t fr) := by
  simp [World.setCell, Array.getElem?_modify, h]
theorem drop_set {α : Type} (l : List α) (j : Nat) (x : α) (h : j < l.length) : (l.set j x).drop j = x :: l.drop (j + 1) := by
  rw [List.drop_eq_getElem_cons (by simpa using h), List.drop_set_of_lt (by omega)]
  simp
theorem Room.store {T : Nat} {w wr : World} {m p : Nat} {ds : List UInt8} (h : Room T w wr m p ds) (hp : 0 < p) (hm : p ≤ m) (c : UInt8) (v : Value) (hv : v = .int .u8 (c.toNat : Int)) : Room T w (wr.setCell ⟨w.heap.size, p - 1, none⟩ v) m (p - 1) (c :: ds) := by
  obtain ⟨cur, hg, hs, hd⟩ := h.blk
  subst hv
  refine ⟨⟨_, heap_set _ _ _ _ _ _ _ hg, by simpa using hs, ?_⟩, h.bel.setCell (Nat.le_refl _) _⟩
  rw [Array.toList_setIfInBounds, drop_set _ _ _ (by simp; omega), show p - 1 + 1 = p by omega, hd]
  rfl
theorem Room.bytes {T : Nat} {w wr : World} {m p : Nat} {ds : List UInt8} (h : Room T w wr m p ds) : ∀ j (hj : j < ds.length), wr.cell? ((⟨w.heap.size, p, none⟩ : Addr).add j) = some (.int .u8 (ds[j].toNat : Int)) := by
  intro j hj
  have hl := h.len
  obtain ⟨cur, hg, hs, hd⟩ := h.blk
  have hadd : (⟨w.heap.size, p, none⟩ : Addr).add j = ⟨w.heap.size, p + j, none⟩ := by unfold Addr.add; split <;> simp_all
  rw [hadd, cell_of_row _ _ _ _ _ _ hg]
  have e := bytesV_get ds j hj
  rw [← hd, List.getElem?_drop] at e
  simpa using e

/-- what holds at each round: the digits of R are still to come -/
structure DigInv (T b n : Nat) (w wr : World) (m p R : Nat) : Prop where
  small : R < (b + 2) ^ p
  ds : ∃ ds, digT b R ++ ds = digL b n ∧ Room T w wr m p ds
theorem DigInv.step {T b n : Nat} {w wr : World} {m p R : Nat} (h : DigInv T b n w wr m p R) (hR : 0 < R) (hp : 0 < p) (hm : p ≤ m) (v : Value) (hv : v = .int .u8 ((hd (R % (b + 2))).toNat : Int)) :
    DigInv T b n w (wr.setCell ⟨w.heap.size, p - 1, none⟩ v) m (p - 1) (R / (b + 2)) := by
  obtain ⟨ds, he, hr⟩ := h.ds
  refine ⟨?_, hd (R % (b + 2)) :: ds, ?_, hr.store hp hm _ v hv⟩
  · rw [Nat.div_lt_iff_lt_mul (by omega), ← Nat.pow_succ, show (p - 1).succ = p by omega]; exact h.small
  · rw [← he, ← digT_step b R hR]; simp
theorem DigInv.pos {T b n : Nat} {w wr : World} {m p R : Nat} (h : DigInv T b n w wr m p R) (hR : 0 < R) : 0 < p := by
  have := h.small
  rcases Nat.eq_zero_or_pos p with e | e
  · subst e; simp at this; omega
  · exact e
theorem DigInv.bel {T b n : Nat} {w wr : World} {m p R : Nat} (h : DigInv T b n w wr m p R) : Below w.heap.size w wr := by
  obtain ⟨ds, _, hr⟩ := h.ds; exact hr.bel
theorem DigInv.cell {T b n : Nat} {w wr : World} {m p R : Nat} (h : DigInv T b n w wr m p R) (j : Nat) (hj : j < m) : ∃ v, wr.cell? ⟨w.heap.size, j, none⟩ = some v := by
  obtain ⟨ds, _, hr⟩ := h.ds; exact hr.cell j hj
theorem DigInv.frozen {T b n : Nat} {w wr : World} {m p R : Nat} (h : DigInv T b n w wr m p R) (j : Nat) : wr.frozen? ⟨w.heap.size, j, none⟩ = false := by
  obtain ⟨ds, _, hr⟩ := h.ds; exact hr.frozen j
theorem DigInv.conv {T b n : Nat} {w wr : World} {m p R : Nat} (h : DigInv T b n w wr m p R) (hR : R = 0) (cap : Nat) (l : Nat) (hl : l = m - p) :
    (convert 57 9 (.slice (some ⟨w.heap.size, p, none⟩) l cap)).run Tryd.prog wr = .ok (.string ⟨(digL b n).toArray⟩) wr := by
  obtain ⟨ds, he, hr⟩ := h.ds
  subst hR
  rw [digT_zero, List.nil_append] at he
  subst hl
  rw [← he, ← hr.len]
  exact run_convert_bytes_back wr 57 9 5 ⟨w.heap.size, p, none⟩ cap ds Tryd.underlying57 Tryd.underlying5 Tryd.underlying9 hr.bytes

theorem DigInv.len {T b n : Nat} {w wr : World} {m p R : Nat} (h : DigInv T b n w wr m p R) (hR : R = 0) : (digL b n).length ≤ m := by
  obtain ⟨ds, he, hr⟩ := h.ds
  subst hR
  rw [digT_zero, List.nil_append] at he
  rw [← he, hr.len]
  omega
theorem str_app (s : ByteArray) (l : List UInt8) : s ++ ⟨l.toArray⟩ = (⟨(s.data.toList ++ l).toArray⟩ : ByteArray) := by
  have : s = ⟨s.data.toList.toArray⟩ := by cases s; simp
  rw [this, ByteArray.mk_append_mk]

theorem sliceArr {T n : Nat} (ht : Tryd.prog.underlying T = some (.array n 5)) (w : World) (B p : Nat) (hp : p < n) :
    (Instr.sliceAt T (.pointer (some ⟨B, 0, none⟩)) (some (.int .i64 (p : Int))) none none).run Tryd.prog w = .ok (.slice (some ⟨B, p, none⟩) (n - p) (n - p)) w := by
  obtain ⟨i0, hi, hz0, hz1, hz2⟩ := info_parts info5
  have hne : ¬ n = p := by omega
  have h1 : (p : Int) ≤ (n : Int) := by omega
  have h0 : (0 : Int) ≤ (p : Int) := by omega
  have hadd : (⟨B, 0, none⟩ : Addr).add p = ⟨B, p, none⟩ := by unfold Addr.add; split <;> simp_all
  simp [Instr.sliceAt, Instr.sureAddr, run_underlying ht, Instr.sliceBounds, run_sliceBound, sizeOf, typeInfo, hi, hz1, hne, h0, h1, hadd]

theorem decimals_init (n : Nat) (w : World) (h1 : (n : Int) ≤ 9223372036854775808) (v : Value) (hv : v = .int .u8 ((hd (n % 10)).toNat : Int)) :
    DigInv 78 8 n w (w.alloc (.cells #[.int .u8 0, .int .u8 0, .int .u8 0, .int .u8 0, .int .u8 0, .int .u8 0, .int .u8 0, .int .u8 0, .int .u8 0, .int .u8 0, .int .u8 0, .int .u8 0, .int .u8 0, .int .u8 0, .int .u8 0, .int .u8 0, .int .u8 0, .int .u8 0, v] 78)) 19 18 (n / 10) := by
  refine ⟨?_, [hd (n % 10)], digL_step 8 n, ⟨_, heap_alloc_new w _, rfl, ?_⟩, (Below.refl _ _).alloc (Nat.le_refl _) _⟩
  · have : (8 + 2) ^ 18 = 1000000000000000000 := by decide
    omega
  · subst hv; rfl

set_option maxHeartbeats 800000 in
theorem decimals_any (n : Nat) (s : ByteArray) (w : World) (h1 : (n : Int) ≤ 9223372036854775808) (hs : s.size ≤ 1) :
    Calls Tryd.prog 33 #[.int .u64 n, .string s] w fun e w' => e = .returned (.string ⟨(s.data.toList ++ digL 8 n).toArray⟩) ∧ Below w.heap.size w w' := by
  have hdg := get_bt ⟨#[48, 49, 50, 51, 52, 53, 54, 55, 56, 57, 97, 98, 99, 100, 101, 102]⟩
  go_enter Tryd.func33, Tryd.ntmps33
  go_wp2
  go_loopw [6, 7] (fun a r wr => ∃ p R : Nat, p ≤ 18 ∧ (R : Int) ≤ 9223372036854775808 ∧ a = .int .i64 p ∧ r = .int .u64 R ∧ DigInv 78 8 n w wr 19 p R) (fun _ r _ => (intOf r).toNat)
  case atStart =>
    refine ⟨18, n / 10, by omega, by omega, rfl, rfl, ?_⟩
    exact decimals_init n w h1 _ (by rw [bt_dg _ (by omega)])
  case round =>
    obtain ⟨p, R, hp, hR, rfl, rfl, hinv⟩ := hrel
    by_cases hpos : 0 < R
    · have hp0 := hinv.pos hpos
      obtain ⟨v, hc⟩ := hinv.cell (p - 1) (by omega)
      have hf := hinv.frozen (p - 1)
      go_wp2
      have hn := hinv.step hpos hp0 (by omega) (.int .u8 (bt ⟨#[48, 49, 50, 51, 52, 53, 54, 55, 56, 57, 97, 98, 99, 100, 101, 102]⟩ (R % 10))) (by rw [bt_dg _ (by omega)])
      go_roundw
      case rel => exact ⟨p - 1, R / 10, by omega, by omega, by go_num, by go_num, hn⟩
      case measure => simp [intOf]; omega
    · have hR0 : R = 0 := by omega
      have hcv := hinv.conv hR0 (19 - p) (19 - p) rfl
      have hsl := sliceArr Tryd.underlying78 wr w.heap.size p (by omega)
      have hbel := hinv.bel
      have hlen := hinv.len hR0
      clear hR0
      go_wp2
      go_ret
      exact ⟨by rw [← str_app]; rfl, hbel⟩

theorem dec_pos (n : Int) (w : World) (h0 : 0 ≤ n) (h1 : n ≤ 9223372036854775807) :
    Calls Tryd.prog 17 #[.int .i64 n] w fun e w' => e = .returned (.string ⟨(digL 8 n.toNat).toArray⟩) ∧ Below w.heap.size w w' := by
  obtain ⟨m, rfl⟩ := Int.eq_ofNat_of_zero_le h0
  go_enter Tryd.func17, Tryd.ntmps17
  go_wp2_with fail
  refine (decimals_any m _ _ (by omega) (by decide)).mono ?_
  rintro e w' ⟨rfl, hb⟩
  go_wp2
  go_ret
  exact ⟨rfl, hb⟩
theorem neg_wrap (n : Int) (h0 : n < 0) (h1 : -9223372036854775808 ≤ n) : IntKind.u64.wrap (-IntKind.u64.wrap n) = ((-n).toNat : Int) := by
  rw [IntKind.wrap_u64, IntKind.wrap_u64]; omega
theorem dec_neg (n : Int) (w : World) (h0 : n < 0) (h1 : -9223372036854775808 ≤ n) :
    Calls Tryd.prog 17 #[.int .i64 n] w fun e w' => e = .returned (.string ⟨(45 :: digL 8 (-n).toNat).toArray⟩) ∧ Below w.heap.size w w' := by
  go_enter Tryd.func17, Tryd.ntmps17
  go_wp2_with fail
  rw [neg_wrap n h0 h1]
  refine (decimals_any (-n).toNat _ _ (by omega) (by decide)).mono ?_
  rintro e w' ⟨rfl, hb⟩
  go_wp2
  go_ret
  exact ⟨rfl, hb⟩

theorem and15 (x : Int) (h0 : 0 ≤ x) (h1 : x ≤ 9223372036854775807) : bits .and .u64 x 15 = x % 16 := bits_mask .u64 64 (by decide) wraps_u64 4 (by decide) x h0 (by omega)
end Go.Proofs.YtdldoklkenhopaaDoor.Hx
