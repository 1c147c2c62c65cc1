/-
  Contract of the document's Padded: the walk.
-/
import Derived.Test.YtmnkhcefdpcheaaDoorShPad
namespace Go.Proofs.YtmnkhcefdpcheaaDoor.Sh
open Go.RowKit Go.PlainAid
set_option linter.unusedVariables false
set_option linter.unusedSimpArgs false

def strOf (l : List Nat) : ByteArray := ⟨(l.map UInt8.ofNat).toArray⟩
theorem bl_strOf {l : List Nat} (h : ∀ x ∈ l, x < 256) : bl (strOf l) = l := by
  unfold bl strOf
  simp only [List.map_map]
  conv => rhs; rw [← List.map_id l]
  apply List.map_congr_left
  intro x hx
  simp [Nat.mod_eq_of_lt (h x hx)]
theorem strOf_size (l : List Nat) : (strOf l).size = l.length := by simp [strOf, ByteArray.size]
theorem HasB.conv {base : Nat} {w : World} {v : Value} {l : List Nat} (h : HasB base w v l) (hl : ∀ x ∈ l, x < 256) : (convert 44 9 v).run Tryd.prog w = .ok (.string (strOf l)) w := by
  obtain ⟨g, cap, rfl, hb, hc, h1, h2⟩ := h.is
  have := run_convert_bytes_back (P := Tryd.prog) w 44 9 5 ⟨g, 0, none⟩ cap (l.map UInt8.ofNat) Tryd.underlying44 Tryd.underlying5 Tryd.underlying9 (fun j hj => by
    rw [add_addr, Nat.zero_add]
    have hj' : j < l.length := by simpa using hj
    rw [h1 j l[j] (List.getElem?_eq_getElem hj')]
    have := hl l[j] (List.getElem_mem hj')
    simp [Nat.mod_eq_of_lt this])
  rw [List.length_map] at this
  exact this
theorem conv_has (w : World) (s : ByteArray) (h : s.size ≤ maxLen) : ∃ v X, (convert 9 44 (.string s)).run Tryd.prog w = .ok v X ∧ HasB w.heap.size X v (bl s) ∧ Below w.heap.size w X ∧ w.heap.size < X.heap.size := by
  refine ⟨_, _, Lib.run_convert_string_bytes w 9 44 5 s Tryd.underlying9 Tryd.underlying44 Tryd.underlying5, ⟨w.heap.size, grownCap w s.size 0 5, by rw [bl_len], Nat.le_refl _, by rw [bl_len]; exact grownCap_ge w s.size 0 _, ?_, ?_⟩, ?_, ?_⟩
  · intro j x hx
    have hj : j < s.size := by
      have := (List.getElem?_eq_some_iff.1 hx).1
      rwa [bl_len] at this
    rw [Lib.bytesWorld_cell w 5 s j hj]
    have e := (List.getElem?_eq_some_iff.1 hx).2
    simp [bl] at e
    simp [← e, hj]
  · intro j a b
    rw [bl_len] at a
    have hz : (Lib.bytesCells w 5 s).size = grownCap w s.size 0 5 := by
      have := grownCap_ge w s.size 0 5
      simp [Lib.bytesCells]; omega
    have hn := Lib.bytesWorld_at_new w 5 s
    rw [cell_of_row _ _ _ _ _ _ hn]
    refine ⟨by simp [show j < (Lib.bytesCells w 5 s).size by omega], ?_⟩
    simp [World.frozen?, hn, hz]; omega
  · exact ⟨rfl, rfl, rfl, by rw [Lib.bytesWorld_size]; omega, fun k hk => Lib.bytesWorld_at_old w 5 s k hk⟩
  · rw [Lib.bytesWorld_size]; omega

def padZ (n : Nat) : Nat := (119 - n % 64) % 64
def sizeB (m : Nat) : List Nat := (List.range 8).map fun j => m / 2 ^ (8 * (7 - j)) % 256
def padF (l : List Nat) (k : Nat) : List Nat := l ++ 128 :: List.replicate k 0
def padL (l : List Nat) : List Nat := padF l (padZ l.length) ++ sizeB (8 * l.length)
theorem padF_len (l : List Nat) (k : Nat) : (padF l k).length = l.length + 1 + k := by simp [padF]; omega
theorem padF_succ (l : List Nat) (k : Nat) : padF l k ++ [0] = padF l (k + 1) := by simp [padF, List.replicate_succ']
theorem sizeB_succ (m j : Nat) (h : j < 8) : (sizeB m).take j ++ [m / 2 ^ (8 * (7 - j)) % 256] = (sizeB m).take (j + 1) := by
  rw [List.take_add_one]
  simp [sizeB, h]
theorem sizeB_len (m : Nat) : (sizeB m).length = 8 := by simp [sizeB]
theorem padL_lt {l : List Nat} (h : ∀ x ∈ l, x < 256) : ∀ x ∈ padL l, x < 256 := by
  intro x hx
  simp only [padL, padF, sizeB, List.mem_append, List.mem_cons, List.mem_replicate, List.mem_map] at hx
  rcases hx with (hx | hx | hx) | ⟨j, _, hx⟩
  · exact h x hx
  · omega
  · omega
  · subst hx; exact Nat.mod_lt _ (by decide)
def slLen : Value → Nat
  | .slice _ n _ => n
  | _ => 0
theorem HasB.slLen {base : Nat} {w : World} {v : Value} {l : List Nat} (h : HasB base w v l) : ∃ g cap, v = .slice (some ⟨g, 0, none⟩) l.length cap := by
  obtain ⟨g, cap, e, _⟩ := h.is
  exact ⟨g, cap, e⟩

theorem cell_new (w : World) (x : Nat) (t : TypeId) : (w.alloc (.cells #[.int .u8 (x : Int)] t)).cell? ⟨w.heap.size, 0, none⟩ = some (.int .u8 (x : Int)) := by
  rw [cell_of_row _ _ _ _ _ _ (heap_alloc_new w _)]; rfl

set_option maxRecDepth 100000 in
set_option maxHeartbeats 4000000 in
theorem padded_any (s : ByteArray) (w : World) (hs : s.size ≤ 1048576) :
    Calls Tryd.prog 32 #[.string s] w fun e w' => e = .returned (.string (strOf (padL (bl s)))) ∧ Below w.heap.size w w' := by
  obtain ⟨v0, X, hcv, hB, F, hX⟩ := conv_has w s (by unfold maxLen; omega)
  go_enter Tryd.func32, Tryd.ntmps32
  go_wp2_with (at_builtin; refine wpl_app1 (x := 128) (hB.alloc _) (by simp; omega) (by rw [bl_len]; omega) (cell_new X 128 _) rfl rfl rfl rfl ?_; intro v1 w1 h1 b1)
  have F1 : Below w.heap.size w w1 := (F.alloc F.size _).trans b1
  have G1 : HasB w.heap.size w1 v1 (padF (bl s) 0) := h1
  clear hcv hB F hX h1 b1
  go_loopw [4] (fun v wr => ∃ k : Nat, k ≤ padZ s.size ∧ HasB w.heap.size wr v (padF (bl s) k) ∧ Below w.heap.size w wr) (fun v _ => s.size + 65 - slLen v)
  case atStart => exact ⟨0, Nat.zero_le _, G1, F1⟩
  case round =>
    clear G1 F1
    obtain ⟨k, hk, G, F⟩ := hrel
    obtain ⟨g, cap, rfl⟩ := G.slLen
    have hz : padZ s.size < 64 := Nat.mod_lt _ (by decide)
    have HG := Lib.hid G
    clear G
    rw [padF_len, bl_len] at HG ⊢
    by_cases hlt : k < padZ s.size
    · have n1 : ¬ ((s.size : Int) + 1 + (k : Int)) % 64 = 56 := by unfold padZ at hlt; omega
      have n2 : (((s.size : Int) + 1 + (k : Int)) % 64 == 56) = false := by simpa using n1
      have n3 : (((s.size : Int) + 1 + (k : Int)) % 64 != 56) = true := by simpa using n1
      clear n1
      go_wp2_with (at_builtin; refine wpl_app1 (x := 0) (HG.out.alloc _) (by have := F.size; simp; omega) (by rw [padF_len, bl_len]; omega) (cell_new wr 0 _) rfl rfl rfl rfl ?_; intro v1 w1 h1 b1)
      rw [padF_succ] at h1
      have F1 : Below w.heap.size w w1 := (F.alloc F.size _).trans b1
      have S1 := Lib.hid h1.slLen
      go_roundw
      case rel => exact ⟨k + 1, hlt, h1, F1⟩
      case measure =>
        obtain ⟨g', cap', e⟩ := S1.out
        rw [e, padF_len, bl_len]
        simp only [slLen]
        omega
    · have n1 : ((s.size : Int) + 1 + (k : Int)) % 64 = 56 := by unfold padZ at hlt hk; omega
      have ek : k = padZ s.size := by omega
      have EK := Lib.hid ek
      clear ek hlt hk
      have n2 : (((s.size : Int) + 1 + (k : Int)) % 64 == 56) = true := by simpa using n1
      have n3 : (((s.size : Int) + 1 + (k : Int)) % 64 != 56) = false := by simpa using n1
      clear n1
      go_wp2
      clear n2 n3
      go_loopw [4, 5] (fun v i wr => ∃ j : Nat, j ≤ 8 ∧ i = .int .i64 (7 - (j : Int)) ∧ HasB w.heap.size wr v (padF (bl s) k ++ (sizeB (8 * s.size)).take j) ∧ Below w.heap.size w wr) (fun _ i _ => (intOf i + 1).toNat)
      case atStart => exact ⟨0, Nat.zero_le _, by simp, by rw [List.take_zero, List.append_nil]; exact HG.out, F⟩
      case round =>
        clear HG F
        obtain ⟨j, hj, rfl, G, F⟩ := hrel
        have hk : k < 64 := by rw [EK.out]; exact hz
        have HG := Lib.hid G
        clear G
        have hl2 : (padF (bl s) k ++ (sizeB (8 * s.size)).take j).length + 1 ≤ 1099511627776 := by
          rw [List.length_append, padF_len, bl_len, List.length_take, sizeB_len]; omega
        have HL2 := Lib.hid hl2
        clear hl2
        by_cases hlt : j < 8
        · have g1 : (0 : Int) ≤ 7 - (j : Int) := by omega
          have g2 : (8 * (7 - (j : Int))).toNat = 8 * (7 - j) := by omega
          have g3 : min (8 * (7 - j)) 64 = 8 * (7 - j) := by omega
          have g4 : (0 : Int) ≤ 8 * (7 - (j : Int)) := by omega
          have g5 : IntKind.i64.wrap (8 * (7 - (j : Int))) = 8 * (7 - (j : Int)) := IntWalk.i64_in _ (by omega)
          have g6 : (s.size : Int) * 8 / 2 ^ (8 * (7 - j)) % 256 = ((8 * s.size / 2 ^ (8 * (7 - j)) % 256 : Nat) : Int) := by
            rw [show (s.size : Int) * 8 = ((8 * s.size : Nat) : Int) by omega, wshr]; omega
          go_wp2_with (at_builtin; refine wpl_app1 (x := 8 * s.size / 2 ^ (8 * (7 - j)) % 256) (HG.out.alloc _) (by have := F.size; simp; omega) HL2.out (cell_new wr _ _) rfl rfl rfl rfl ?_; intro v1 w1 h1 b1)
          rw [List.append_assoc, sizeB_succ _ _ hlt] at h1
          have F1 : Below w.heap.size w w1 := (F.alloc F.size _).trans b1
          go_roundw
          case rel => exact ⟨j + 1, by omega, by go_num, h1, F1⟩
          case measure => simp [intOf]; omega
        · obtain rfl : j = 8 := by omega
          have e : padF (bl s) k ++ (sizeB (8 * s.size)).take 8 = padL (bl s) := by
            rw [List.take_of_length_le (by rw [sizeB_len]; decide), EK.out]; unfold padL; rw [bl_len]
          have G := HG.out
          rw [e] at G
          have hcv := G.conv (padL_lt (bl_lt s))
          clear G
          have g1 : ¬ (0 : Int) ≤ 7 - ((8 : Nat) : Int) := by omega
          go_wp2
          go_ret
          exact ⟨rfl, F⟩
end Go.Proofs.YtmnkhcefdpcheaaDoor.Sh
