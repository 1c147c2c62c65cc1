/-
  Contracts of Tail, the program's and the document's: a number's four bytes, the lowest first.
-/
import Derived.Test.YtdmgobffhpgjlaaGreatCrLeaf
import Derived.Lib.ConvBytes
import Derived.Laws.IdiomStrings

namespace Go.Proofs.YtdmgobffhpgjlaaGreat.Cr
open Go.RowKit Go.PlainAid
set_option linter.unusedVariables false
set_option maxRecDepth 20000

/-- the text of bytes that are numbers -/
def strOf (l : List Nat) : ByteArray := ⟨(l.map UInt8.ofNat).toArray⟩
theorem strOf_size (l : List Nat) : (strOf l).size = l.length := by simp [strOf, ByteArray.size]
theorem bl_strOf {l : List Nat} (h : ∀ x ∈ l, x < 256) : bl (strOf l) = l := by
  simp only [bl, strOf, List.map_map]
  refine (List.map_congr_left (g := id) fun x hx => ?_).trans (List.map_id _)
  simp [UInt8.toNat_ofNat', Nat.mod_eq_of_lt (h x hx)]
/-- Tail -/
def tl (n : Nat) : ByteArray := strOf (le 4 n)
theorem le_len : ∀ (k n : Nat), (le k n).length = k
  | 0, _ => rfl
  | k + 1, n => by simp [le, le_len k]
theorem le_lt : ∀ (k n : Nat), ∀ x ∈ le k n, x < 256
  | 0, _, x, h => by simp [le] at h
  | k + 1, n, x, h => by
    simp only [le, List.mem_cons] at h
    rcases h with rfl | h
    · exact Nat.mod_lt _ (by decide)
    · exact le_lt k _ x h
theorem tl_size (n : Nat) : (tl n).size = 4 := by unfold tl; rw [strOf_size, le_len]
theorem bl_tl (n : Nat) : bl (tl n) = le 4 n := bl_strOf (le_lt 4 n)

theorem add_addr (B k : Nat) : (⟨B, 0, none⟩ : Addr).add k = ⟨B, k, none⟩ := by unfold Addr.add; split <;> simp_all
theorem tl_conv (n : Nat) (w : World) (h : n < 4294967296) :
    (convert 87 9 (.slice (some ⟨w.heap.size, 0, none⟩) 4 4)).run Tryz.prog (w.alloc (.cells #[.int .u8 ((n : Int) % 256), .int .u8 ((n : Int) / 256 % 256), .int .u8 ((n : Int) / 65536 % 256), .int .u8 ((n : Int) / 16777216)] 5))
      = .ok (.string (tl n)) (w.alloc (.cells #[.int .u8 ((n : Int) % 256), .int .u8 ((n : Int) / 256 % 256), .int .u8 ((n : Int) / 65536 % 256), .int .u8 ((n : Int) / 16777216)] 5)) := by
  refine run_convert_bytes_back _ 87 9 5 ⟨w.heap.size, 0, none⟩ 4 [UInt8.ofNat (n % 256), UInt8.ofNat (n / 256 % 256), UInt8.ofNat (n / 256 / 256 % 256), UInt8.ofNat (n / 256 / 256 / 256 % 256)] Tryz.underlying87 Tryz.underlying5 Tryz.underlying9 fun j hj => ?_
  rw [add_addr, cell_of_row _ _ _ _ _ _ (heap_alloc_new w _)]
  have e : ∀ m : Nat, ((UInt8.ofNat (m % 256)).toNat : Int) = (m : Int) % 256 := by
    intro m
    rw [UInt8.toNat_ofNat']
    omega
  have hj' : j < 4 := hj
  rcases j with _ | _ | _ | _ | j
  · simp only [List.getElem_cons_zero, e]; rfl
  · simp only [List.getElem_cons_succ, List.getElem_cons_zero, e]; simp
  · simp only [List.getElem_cons_succ, List.getElem_cons_zero, e]; simp; omega
  · simp only [List.getElem_cons_succ, List.getElem_cons_zero, e]; simp; omega
  · omega

theorem tail_any (n : Nat) (w : World) (h : n < 4294967296) :
    Calls Tryz.prog 77 #[.int .u32 n] w fun e w' => e = .returned (.string (tl n)) ∧ Below w.heap.size w w' := by
  have hc := tl_conv n w h
  go_enter Tryz.func77, Tryz.ntmps77
  go_wp2
  go_ret
  exact ⟨rfl, (Below.refl _ _).alloc (Nat.le_refl _) _⟩
theorem rtail_any (n : Nat) (w : World) (h : n < 4294967296) :
    Calls Tryz.prog 80 #[.int .u32 n] w fun e w' => e = .returned (.string (tl n)) ∧ Below w.heap.size w w' := by
  have hc := tl_conv n w h
  go_enter Tryz.func80, Tryz.ntmps80
  go_wp2
  go_ret
  exact ⟨rfl, (Below.refl _ _).alloc (Nat.le_refl _) _⟩

/-- v reads as the texts ss in w -/
structure StrsAt (w : World) (v : Value) (ss : List ByteArray) : Prop where
  is : ∃ base cap, v = .slice base ss.length cap ∧ ∀ j s, ss[j]? = some s → ∃ a : Addr, base = some a ∧ a.block < w.heap.size ∧ w.cell? (a.add j) = some (.string s)
theorem one_strs (w : World) (s : ByteArray) : StrsAt (w.alloc (.cells #[.string s] 9)) (.slice (some ⟨w.heap.size, 0, none⟩) 1 1) [s] := by
  refine ⟨some ⟨w.heap.size, 0, none⟩, 1, rfl, ?_⟩
  intro j t ht
  refine ⟨_, rfl, by simp, ?_⟩
  rw [add_addr, cell_of_row _ _ _ _ _ _ (heap_alloc_new w _)]
  rcases j with _ | j
  · simp at ht; subst ht; rfl
  · simp at ht
theorem two_strs (w : World) (s t : ByteArray) : StrsAt (w.alloc (.cells #[.string s, .string t] 9)) (.slice (some ⟨w.heap.size, 0, none⟩) 2 2) [s, t] := by
  refine ⟨some ⟨w.heap.size, 0, none⟩, 2, rfl, ?_⟩
  intro j u hu
  refine ⟨_, rfl, by simp, ?_⟩
  rw [add_addr, cell_of_row _ _ _ _ _ _ (heap_alloc_new w _)]
  rcases j with _ | _ | j
  · simp at hu; subst hu; rfl
  · simp at hu; subst hu; rfl
  · simp at hu
def allB (ss : List ByteArray) : List Nat := (ss.map bl).flatten
theorem allB_snoc (ss : List ByteArray) (k : Nat) (s : ByteArray) (h : ss[k]? = some s) : allB (ss.take (k + 1)) = allB (ss.take k) ++ bl s := by
  unfold allB
  rw [List.take_add_one, h]
  simp
theorem allB_two (s t : ByteArray) : allB [s, t] = bl s ++ bl t := by simp [allB]
theorem allB_lt (ss : List ByteArray) : ∀ x ∈ allB ss, x < 256 := by
  intro x hx
  simp only [allB, List.mem_flatten, List.mem_map] at hx
  obtain ⟨l, ⟨s, _, rfl⟩, hx⟩ := hx
  exact bl_lt s x hx

theorem of_any {w : World} {v : Value} {ss : List ByteArray} (hv : StrsAt w v ss) (hl : ss.length ≤ 9223372036854775807) (hz : ∀ s ∈ ss, s.size ≤ 9223372036854775807) :
    Calls Tryz.prog 78 #[v] w fun e w' => e = .returned (.int .u32 (mor 0 (allB ss) : Nat)) ∧ w = w' := by
  obtain ⟨base, cap, rfl, hc⟩ := hv.is
  clear hv
  have HC := Lib.hid hc
  have HZ := Lib.hid hz
  clear hc hz
  go_enter Tryz.func78, Tryz.ntmps78
  go_wp2
  go_loopw [3, 8] (fun x i wr => ∃ k : Nat, k ≤ ss.length ∧ x = .int .u32 (mor 0 (allB (ss.take k)) : Nat) ∧ i = .int .i64 k ∧ w = wr) (fun _ i _ => ss.length - (intOf i).toNat)
  case atStart => exact ⟨0, Nat.zero_le _, by rw [List.take_zero, show allB [] = [] from rfl, mor_nil]; rfl, rfl, rfl⟩
  case round =>
    obtain ⟨k, hk, rfl, rfl, rfl⟩ := hrel
    by_cases hlt : k < ss.length
    · obtain ⟨s, hs⟩ : ∃ s, ss[k]? = some s := ⟨ss[k], List.getElem?_eq_getElem hlt⟩
      obtain ⟨a, rfl, ha, hcell⟩ := HC.out k s hs
      have hsz := HZ.out s (List.mem_of_getElem? hs)
      have HS := Lib.hid hs
      clear hs
      have l1 : (k : Int) < (ss.length : Int) := by omega
      go_wp2_with fail
      refine (more_any (mor 0 (allB (ss.take k))) s _ (mor_lt (by decide) (allB_lt _)) hsz).mono ?_
      rintro e w' ⟨rfl, rfl⟩
      go_wp2
      go_roundw
      case rel => exact ⟨k + 1, by omega, by rw [allB_snoc ss k s HS.out, mor_append], by go_num, trivial⟩
      case measure => simp [intOf]; omega
    · have e : ss.take k = ss := List.take_of_length_le (by omega)
      have l1 : ¬ (k : Int) < (ss.length : Int) := by omega
      rw [e]
      go_wp2
      go_ret
      exact ⟨rfl, rfl⟩
end Go.Proofs.YtdmgobffhpgjlaaGreat.Cr
