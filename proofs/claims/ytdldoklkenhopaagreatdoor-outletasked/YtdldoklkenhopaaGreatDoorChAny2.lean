/-
  Contract of the library's IndexAny at a blank, a tab, a semicolon, for every text.
-/
import Derived.Test.YtdldoklkenhopaaGreatDoorChAny
import Derived.Test.YtdldoklkenhopaaGreatDoorSet2
namespace Go.Proofs.YtdldoklkenhopaaGreatDoor.Ch
open Go.RowKit Go.PlainAid
open Hx Fi
set_option linter.unusedVariables false
set_option maxRecDepth 20000
set_option linter.unusedSimpArgs false

def setS : Array Value := Lib.setCells [32, 9, 59]
theorem setS_size : setS.size = 256 := Lib.setCells_size _
theorem setS_one : ∀ v ∈ setS.toList, v.oneCell' = true := by
  have := Lib.setCells_one [32, 9, 59]
  rw [Array.all_eq_true_iff_forall_mem] at this
  intro v hv
  exact this v (Array.mem_toList_iff.1 hv)
theorem set_cell {w : World} {B : Nat} (h : At w B 124 setS) (n : Nat) (hn : n < 256) : w.cell? ⟨B, n, none⟩ = some (.bool (sepN (n : Int))) := by
  rw [h.cell]
  have := Lib.setCells_at [32, 9, 59] (UInt8.ofNat n)
  have e : (UInt8.ofNat n).toNat = n := by rw [UInt8.toNat_ofNat']; omega
  rw [show ([32, 9, 59] : List UInt8) = sepL from rfl, sep_is, e] at this
  exact this
theorem contains_any {w : World} {B : Nat} (h : At w B 124 setS) (c : Int) (h0 : 0 ≤ c) (h1 : c ≤ 255) :
    Calls Tryz.prog 110 #[.pointer (some ⟨B, 0, none⟩), .int .u8 c] w fun e w' => e = .returned (.bool (sepN c)) ∧ w = w' := by
  obtain ⟨n, rfl⟩ := Int.eq_ofNat_of_zero_le h0
  have hc := set_cell h n (by omega)
  have hn : n < 256 := by omega
  have hn2 : (n : Int) < 256 := by omega
  generalize sepN (n : Int) = b at *
  clear h h1 h0
  go_enter Tryz.func110, Tryz.ntmps110
  go_wp2
  go_ret
  exact ⟨rfl, rfl⟩
set_option maxRecDepth 100000 in
theorem zero_set : Tryz.zeroCells124 = Lib.setCells [] := by kernel_rfl
theorem set_loads {w : World} {B : Nat} {l : List UInt8} (h : At w B 124 (Lib.setCells l)) : Loads Tryz.prog w 124 ⟨B, 0, none⟩ (Lib.setCells l) :=
  h.loads (by kernel_rfl) (by rw [Lib.setCells_size]; kernel_rfl)
theorem set_stores {w : World} {B : Nat} {l m : List UInt8} (h : At w B 124 (Lib.setCells m)) : Stores Tryz.prog w 124 B 0 (Lib.setCells l) (w.setRow B (Lib.setCells l)) :=
  h.stores (by rw [Lib.setCells_size]; kernel_rfl) (by rw [Lib.setCells_size, Lib.setCells_size]) (by
    have := Lib.setCells_one l
    rw [Array.all_eq_true_iff_forall_mem] at this
    intro v hv
    exact this v (Array.mem_toList_iff.1 hv))
set_option maxRecDepth 100000 in
set_option maxHeartbeats 2000000 in
theorem makeSet_any (w : World) :
    Calls Tryz.prog 99 #[.string ⟨#[32, 9, 59]⟩] w fun e w' => e = .returned (.tuple #[.agg setS, .bool true]) ∧ Below w.heap.size w w' := by
  have A0 := At.new w 124 Tryz.zeroCells124
  have F0 : Below w.heap.size w (w.alloc (.cells Tryz.zeroCells124 124)) := (Below.refl _ _).alloc (Nat.le_refl _) _
  go_enter Tryz.func99, Tryz.ntmps99
  go_wp2
  generalize w.alloc (.cells Tryz.zeroCells124 124) = w0 at A0 F0 ⊢
  rw [zero_set] at A0
  go_loopw [4] (fun i wr => ∃ k : Nat, k ≤ 3 ∧ i = .int .i64 k ∧ At wr w.heap.size 124 (Lib.setCells ([32, 9, 59].take k)) ∧ Below w.heap.size w wr) (fun i _ => 3 - (intOf i).toNat)
  case atStart => exact ⟨0, Nat.zero_le _, rfl, A0, F0⟩
  case round =>
    clear A0 F0
    obtain ⟨k, hk, rfl, A1, F1⟩ := hrel
    have g0 : ∀ h, ((⟨#[32, 9, 59]⟩ : ByteArray)[0]'h).toNat = 32 := fun _ => rfl
    have g1 : ∀ h, ((⟨#[32, 9, 59]⟩ : ByteArray)[1]'h).toNat = 9 := fun _ => rfl
    have g2 : ∀ h, ((⟨#[32, 9, 59]⟩ : ByteArray)[2]'h).toNat = 59 := fun _ => rfl
    have hk3 : k = 0 ∨ k = 1 ∨ k = 2 ∨ k = 3 := by omega
    rcases hk3 with rfl | rfl | rfl | rfl
    · have c1 : wr.cell? ⟨w.heap.size, 32, none⟩ = some (.bool false) := by
        rw [A1.cell]; have := Lib.setCells_at [] 32; exact this
      have f1 := A1.frozen 32
      have A2 := A1.set 32 (.bool true)
      rw [show (Lib.setCells ([32, 9, 59].take 0)).setIfInBounds 32 (.bool true) = Lib.setCells ([32, 9, 59].take 1) from (Lib.setCells_snoc [] 32).symm] at A2
      have F2 := below_set F1 32 (.bool true)
      go_wp2
      go_roundw
      case rel => exact ⟨1, by omega, rfl, A2, F2⟩
      case measure => decide
    · have c1 : wr.cell? ⟨w.heap.size, 9, none⟩ = some (.bool false) := by
        rw [A1.cell]; have := Lib.setCells_at [32] 9; exact this
      have f1 := A1.frozen 9
      have A2 := A1.set 9 (.bool true)
      rw [show (Lib.setCells ([32, 9, 59].take 1)).setIfInBounds 9 (.bool true) = Lib.setCells ([32, 9, 59].take 2) from (Lib.setCells_snoc [32] 9).symm] at A2
      have F2 := below_set F1 9 (.bool true)
      go_wp2
      go_roundw
      case rel => exact ⟨2, by omega, rfl, A2, F2⟩
      case measure => decide
    · have c1 : wr.cell? ⟨w.heap.size, 59, none⟩ = some (.bool false) := by
        rw [A1.cell]; have := Lib.setCells_at [32, 9] 59; exact this
      have f1 := A1.frozen 59
      have A2 := A1.set 59 (.bool true)
      rw [show (Lib.setCells ([32, 9, 59].take 2)).setIfInBounds 59 (.bool true) = Lib.setCells ([32, 9, 59].take 3) from (Lib.setCells_snoc [32, 9] 59).symm] at A2
      have F2 := below_set F1 59 (.bool true)
      go_wp2
      go_roundw
      case rel => exact ⟨3, by omega, rfl, A2, F2⟩
      case measure => decide
    · have L1 := set_loads A1
      have S1 := set_stores (l := [32, 9, 59].take 3) A1
      have A2 := A1.row (Lib.setCells ([32, 9, 59].take 3))
      have F2 : Below w.heap.size w (wr.setRow w.heap.size (Lib.setCells ([32, 9, 59].take 3))) := below_row F1 (Nat.le_refl _)
      generalize wr.setRow w.heap.size (Lib.setCells ([32, 9, 59].take 3)) = w2 at S1 A2 F2
      go_wp2_with (first | refine wpl_load L1 rfl rfl rfl ?_ | refine wpl_store S1 rfl rfl rfl rfl rfl ?_)
      exact bodyPost_ret (Fi.results_cell_tmp Tryz.results99 _ rfl rfl (set_loads A2)) rfl ⟨rfl, F2⟩

/-! ### the first of the letters -/
def anyI (l : List UInt8) : Int := Lib.indexAny l sepL
theorem use_any (n : Int) (w : World) : Calls Tryz.prog 109 #[.int .i64 n] w fun e w' => e = .returned (.bool (decide (8 < n))) ∧ w = w' := by
  go_enter Tryz.func109, Tryz.ntmps109
  go_wp2
  go_ret
  exact ⟨rfl, rfl⟩
theorem keep_set (w : World) : ∃ X, Stores Tryz.prog (w.alloc (.cells Tryz.zeroCells124 124)) 124 w.heap.size 0 setS X ∧ At X w.heap.size 124 setS ∧ Below w.heap.size w X ∧ X.heap.size = w.heap.size + 1 :=
  keep w _ setS 124 (by rw [setS_size]; kernel_rfl) (by rw [setS_size, zero_set, Lib.setCells_size]) setS_one
set_option maxHeartbeats 4000000 in
set_option maxRecDepth 100000 in
theorem indexAny_long (s : ByteArray) (w : World) (h8 : 8 < s.size) (hs : s.size ≤ 1099511627776) :
    Calls Tryz.prog 92 #[.string s, .string ⟨#[32, 9, 59]⟩] w fun e w' => e = .returned (.int .i64 (anyI (ls s))) ∧ Below w.heap.size w w' := by
  have u := fun w => use_any (s.size : Int) w
  rw [decide_eq_true (show (8 : Int) < (s.size : Int) by omega)] at u
  have hg := get_bt s
  go_enter Tryz.func92, Tryz.ntmps92
  go_wp2_with fail
  refine (u _).mono ?_
  rintro e w' ⟨rfl, rfl⟩
  clear u
  go_wp2_with fail
  refine (makeSet_any _).mono ?_
  rintro e w1 ⟨rfl, B1⟩
  obtain ⟨X, S, A, B2, _⟩ := keep_set w1
  have B3 := B1.trans (B2.mono B1.size)
  clear B1 B2
  go_wp2_with (refine wpl_store S rfl rfl rfl rfl rfl ?_)
  clear S
  have hp := B3.size
  have A' := Lib.hid A
  clear A
  generalize w1.heap.size = B at *
  go_loopg [8] s.size (fun g s8 wx => ∃ i : Nat, i + g = s.size ∧ s8 = .int .i64 i ∧ wx = X ∧ Lib.NoAny (ls s) sepL i)
  case atStart => exact ⟨0, by omega, rfl, rfl, Lib.NoAny.zero _ _⟩
  case round =>
    obtain ⟨i, hig, rfl, rfl, hno⟩ := hrel
    have HN := Lib.hid hno
    clear hno
    cases gk with
    | zero =>
      obtain rfl : i = s.size := by omega
      have hiz : ¬ ((s.size : Int) < (s.size : Int)) := by omega
      go_wp2
      go_ret
      exact ⟨by rw [anyI, Lib.indexAny_none (by rw [ls_len]; exact HN.out)]; rfl, B3⟩
    | succ g =>
      have hi : i < s.size := by omega
      have hiz : (i : Int) < (s.size : Int) := by omega
      obtain ⟨x, gx, ex, _, _, _⟩ := get_ls hi
      have b0 := bt_nonneg s i
      have b1 := bt_le s i
      have co := fun w => fun h => contains_any (w := w) (B := B) h (bt s i) b0 b1
      have co2 := co _ A'.out
      clear co
      have HX := Lib.hid gx
      have hq := sep_is x
      rw [← ex] at hq
      clear gx ex
      cases hw : sepN (bt s i) with
      | true =>
        rw [hw] at hq co2
        have HQ := Lib.hid hq
        clear hq hw
        go_wp2_with fail
        refine co2.mono ?_
        rintro e w' ⟨rfl, rfl⟩
        clear co2
        go_wp2
        go_ret
        exact ⟨by rw [anyI, Lib.indexAny_hit HN.out HX.out HQ.out]; rfl, B3⟩
      | false =>
        rw [hw] at hq co2
        have HQ := Lib.hid hq
        clear hq hw
        go_wp2_with fail
        refine co2.mono ?_
        rintro e w' ⟨rfl, rfl⟩
        clear co2
        go_wp2
        go_roundg g
        case measure => omega
        case rel => exact ⟨i + 1, by omega, by go_num, rfl, HN.out.succ HX.out HQ.out⟩
set_option maxHeartbeats 4000000 in
theorem indexAny_short (s : ByteArray) (w : World) (h8 : s.size ≤ 8) :
    Calls Tryz.prog 92 #[.string s, .string ⟨#[32, 9, 59]⟩] w fun e w' => e = .returned (.int .i64 (anyI (ls s))) ∧ Below w.heap.size w w' := by
  have u := fun w => use_any (s.size : Int) w
  rw [decide_eq_false (show ¬ (8 : Int) < (s.size : Int) by omega)] at u
  have B0 : Below w.heap.size w (w.iter s 0) := (Below.refl _ _).alloc (Nat.le_refl _) _
  have H0 := World.iter_heap w s 0
  go_enter Tryz.func92, Tryz.ntmps92
  go_wp2_with fail
  refine (u _).mono ?_
  rintro e w' ⟨rfl, rfl⟩
  clear u
  go_wp2_with fail
  generalize w.iter s 0 = w0 at B0 H0 ⊢
  go_loopg [9, 10] s.size (fun g _ _ wr => ∃ k : Nat, k + g = s.size ∧ wr.heap[w.heap.size]? = some (.stringIter s k) ∧ Below w.heap.size w wr ∧ Lib.NoAny (ls s) sepL k)
  case atStart => exact ⟨0, by omega, H0, B0, Lib.NoAny.zero _ _⟩
  case round =>
    clear H0 B0
    obtain ⟨k, hk, hh, hb, hno⟩ := hrel
    have HN := Lib.hid hno
    clear hno
    cases gk with
    | zero =>
      obtain rfl : k = s.size := by omega
      have nx := fun ty => run_next_over (P := Tryz.prog) hh (Nat.lt_irrefl _) ty
      go_wp2
      go_ret
      exact ⟨by rw [anyI, Lib.indexAny_none (by rw [ls_len]; exact HN.out)]; rfl, hb⟩
    | succ g =>
      have hi : k < s.size := by omega
      obtain ⟨x, gx, ex, _, _, _⟩ := get_ls hi
      have b0 := bt_nonneg s k
      have hlt := (Array.getElem?_eq_some_iff.1 hh).1
      by_cases hc : bt s k < 128
      · have hd := decode_near s k hi hc
        have nx := fun ty => run_next_rune (P := Tryz.prog) hh hi hd ty
        rw [show (((bt s k).toNat : Nat) : Int) = bt s k by omega] at nx
        have H2 := stepIt_at hh (k + 1)
        have B2 := stepIt_below hb (Nat.le_refl _) (s := s) (k + 1)
        have rn := fun w => rune_near (bt s k) w b0 hc
        have hq := sep_is x
        rw [← ex] at hq
        have HX := Lib.hid gx
        have HQ := Lib.hid hq
        clear hd hq gx ex hb
        have hlt2 : w.heap.size < (stepIt wr w.heap.size s (k + 1)).heap.size := by simpa [stepIt] using hlt
        generalize stepIt wr w.heap.size s (k + 1) = w2 at *
        generalize bt s k = c at *
        go_wp2_with fail
        refine (rn _).mono ?_
        rintro e w3 ⟨v, rfl, hv, B3⟩
        clear rn nx hh
        have B4 := B2.trans (B3.mono B2.size)
        have H3 : w3.heap[w.heap.size]? = some (.stringIter s (k + 1)) := by rw [B3.block _ hlt2]; exact H2
        cases hw : sepN c with
        | true =>
          rw [hw] at hv
          have HQ2 := HQ.out
          rw [hw] at HQ2
          have HQ3 := Lib.hid HQ2
          have hv2 : (0 : Int) ≤ v := of_decide_eq_true hv
          clear HQ2 hw hv
          go_wp2
          go_ret
          exact ⟨by rw [anyI, Lib.indexAny_hit HN.out HX.out HQ3.out]; rfl, B4⟩
        | false =>
          rw [hw] at hv
          have HQ2 := HQ.out
          rw [hw] at HQ2
          have HQ3 := Lib.hid HQ2
          have hv2 : ¬ (0 : Int) ≤ v := of_decide_eq_false hv
          clear HQ2 hw hv
          go_wp2
          go_roundg g
          case measure => omega
          case rel => exact ⟨k + 1, by omega, H3, B4, HN.out.succ HX.out HQ3.out⟩
      · have hf := decode_far s k hi (by omega)
        obtain ⟨r, n, hd⟩ : ∃ r n, Utf8.decode s k = (r, n) := ⟨_, _, rfl⟩
        rw [hd] at hf
        obtain ⟨hr, hv, hn, hle, hall⟩ := hf
        simp only at hr hv hn hle hall
        have nx := fun ty => run_next_rune (P := Tryz.prog) hh hi hd ty
        have H2 := stepIt_at hh (k + n)
        have B2 := stepIt_below hb (Nat.le_refl _) (s := s) (k + n)
        have hlt2 : w.heap.size < (stepIt wr w.heap.size s (k + n)).heap.size := by simpa [stepIt] using hlt
        have rn : ∀ w, Calls Tryz.prog 108 #[.string ⟨#[32, 9, 59]⟩, .int .i32 (r : Int)] w fun e w' => e = .returned (.int .i64 (-1)) ∧ Below w.heap.size w w' := fun w => by
          by_cases e : r = 65533
          · subst e; exact rune_error w
          · exact rune_far (r : Int) w (by omega) hv (by omega)
        have HN2 : Hid (Lib.NoAny (ls s) sepL (k + n)) := Lib.hid (by
          intro j b hj hb
          by_cases c : j < k
          · exact HN.out j b c hb
          · have hj2 : j < s.size := by omega
            have h128 := hall j (by omega) (by omega)
            obtain ⟨y, gy, ey, _, _, _⟩ := get_ls hj2
            rw [hb] at gy
            obtain rfl : b = y := Option.some.inj gy
            rw [sep_is, ← ey]
            exact sep_far h128)
        clear hd gx ex hb hall hv hc b0
        generalize stepIt wr w.heap.size s (k + n) = w2 at *
        go_wp2_with fail
        refine (rn _).mono ?_
        rintro e w3 ⟨rfl, B3⟩
        clear rn nx hh
        have B4 := B2.trans (B3.mono B2.size)
        have H3 : w3.heap[w.heap.size]? = some (.stringIter s (k + n)) := by rw [B3.block _ hlt2]; exact H2
        go_wp2
        go_roundg (g + 1 - n)
        case measure => omega
        case rel => exact ⟨k + n, by omega, H3, B4, HN2.out⟩
theorem indexAny_any (s : ByteArray) (w : World) (hs : s.size ≤ 1099511627776) :
    Calls Tryz.prog 92 #[.string s, .string ⟨#[32, 9, 59]⟩] w fun e w' => e = .returned (.int .i64 (anyI (ls s))) ∧ Below w.heap.size w w' := by
  by_cases h : s.size ≤ 8
  · exact indexAny_short s w h
  · exact indexAny_long s w (by omega) hs
end Go.Proofs.YtdldoklkenhopaaGreatDoor.Ch
