/-
  Contracts of Sum and Of: the digest of all bytes; nothing that was there is changed.
-/
import Derived.Test.YtmnkhcefdpcheaaDoorShWr
namespace Go.Proofs.YtmnkhcefdpcheaaDoor.Sh
open Go.RowKit Go.PlainAid
set_option linter.unusedVariables false

def tailB (l : List Nat) : List Nat := l.drop (64 * (l.length / 64)) ++ List.replicate (64 - l.length % 64) 0
/-- the digest of bytes -/
def shaD (l : List Nat) : List Nat := digTo (endL (hs l (l.length / 64)) (tailB l) l.length) 8
theorem shaD_len (l : List Nat) : (shaD l).length = 32 := by unfold shaD; exact dig_len _ _
theorem pad1_take {blk : List Nat} {u : Nat} (h : u < blk.length) : pad1 blk u = blk.take u ++ 128 :: List.replicate (63 - u) 0 := by
  unfold pad1
  rw [List.take_succ_eq_append_getElem (by simpa using h)]
  simp [List.take_set_of_le]
theorem end_same {st b1 b2 : List Nat} {n : Nat} (h1 : b1.length = 64) (h2 : b2.length = 64) (h : b1.take (n % 64) = b2.take (n % 64)) : endL st b1 n = endL st b2 n := by
  have hu : n % 64 < 64 := Nat.mod_lt _ (by decide)
  have e : pad1 b1 (n % 64) = pad1 b2 (n % 64) := by rw [pad1_take (by omega), pad1_take (by omega), h]
  by_cases c : 56 ≤ n % 64
  · rw [end_high c, end_high c, e]
  · rw [end_low c, end_low c, e]
theorem tailB_len (l : List Nat) : (tailB l).length = 64 := by simp [tailB]; omega
theorem tailB_take (l : List Nat) : (tailB l).take (l.length % 64) = l.drop (64 * (l.length / 64)) := by
  unfold tailB
  rw [List.take_append_of_le_length (by simp; omega), List.take_of_length_le (by simp; omega)]
theorem ShaIs.dig {w : World} {B : Nat} {l blk : List Nat} (h : ShaIs w B l blk) : digTo (endL (hs l (l.length / 64)) blk l.length) 8 = shaD l := by
  unfold shaD
  rw [end_same h.at_.lb (tailB_len l) (by rw [h.tail, tailB_take])]
attribute [irreducible] shaD

theorem zeros32n : (List.replicate 32 0).length = 32 := by simp

set_option maxRecDepth 100000 in
set_option maxHeartbeats 4000000 in
theorem sum_any {w : World} {B : Nat} {l blk : List Nat} (h : ShaIs w B l blk) (hk : Tab w 1 keys) (hn : l.length ≤ 1099511627776) :
    Calls Tryd.prog 31 #[.pointer (some ⟨B, 0, none⟩)] w fun e w' => e = .returned (.agg (vals .u8 (shaD l)).toArray) ∧ Below w.heap.size w w' := by
  have HD := Lib.hid h.dig
  have HLT := Lib.hid h.lt
  have R := Blk.new w .u8 23 (List.replicate 32 0)
  have A := h.at_.alloc (.cells (vals .u8 (List.replicate 32 0)).toArray 23)
  have K := hk.alloc (.cells (vals .u8 (List.replicate 32 0)).toArray 23)
  have F : Below w.heap.size w (w.alloc (.cells (vals .u8 (List.replicate 32 0)).toArray 23)) := (Below.refl _ _).alloc (Nat.le_refl _) _
  rw [zeros32] at R A K F
  have L1 := A.loadAll (P := Tryd.prog) (ty := 61) (by kernel_rfl) (by kernel_rfl)
  clear h hk
  go_enter Tryd.func31, Tryd.ntmps31
  go_upto_region 1 with (fail)
  generalize w.alloc (.cells #[.int .u8 0, .int .u8 0, .int .u8 0, .int .u8 0, .int .u8 0, .int .u8 0, .int .u8 0, .int .u8 0, .int .u8 0, .int .u8 0, .int .u8 0, .int .u8 0, .int .u8 0, .int .u8 0, .int .u8 0, .int .u8 0, .int .u8 0, .int .u8 0, .int .u8 0, .int .u8 0, .int .u8 0, .int .u8 0, .int .u8 0, .int .u8 0, .int .u8 0, .int .u8 0, .int .u8 0, .int .u8 0, .int .u8 0, .int .u8 0, .int .u8 0, .int .u8 0] 23) = X at R A K F L1 ⊢
  go_wp2_with (refine wpl_load L1 rfl rfl rfl ?_)
  refine (ended_any _ _ _ _ A.ls (hs_lt _ _) A.lb HLT.out hn K).mono ?_
  rintro e X2 ⟨rfl, hb⟩
  have R2 := R.below hb R.lt
  have F2 := F.trans (hb.mono F.size)
  clear L1 R A K F hb
  go_wp2_with fail
  refine (digest_any _ _ (end_len _ _ _) (end_lt _ _ _)).mono ?_
  rintro e X3 ⟨rfl, hb⟩
  rw [HD.out]
  have R3 := R2.below hb R2.lt
  have F3 := F2.trans (hb.mono F2.size)
  clear R2 F2 hb
  have S1 := R3.stores (P := Tryd.prog) (ty := 23) (l' := shaD l) (by rw [shaD_len]; kernel_rfl) (by rw [shaD_len, zeros32n])
  go_wp2_with (refine wpl_store S1 rfl rfl rfl rfl rfl ?_)
  exact bodyPost_ret (results_cell_row Tryd.results31 _ _ w.heap.size 23 (vals .u8 (shaD l)).toArray (0, 0) _ rfl (R3.row _).heap Tryd.underlying23 rfl (by simp only [List.size_toArray, vals_len, shaD_len]; kernel_rfl)) rfl ⟨rfl, below_row F3 (Nat.le_refl _)⟩

theorem new_is (w : World) : ShaIs (w.alloc (.cells (shaV start (List.replicate 64 0) 0).toArray 61)) w.heap.size [] (List.replicate 64 0) :=
  ⟨by show ShaAt _ _ (hs [] 0) _ 0; rw [hs_zero]; exact ShaAt.new w 0 rfl (by simp), lt_zeros 64, by simp⟩

set_option maxRecDepth 100000 in
set_option maxHeartbeats 4000000 in
theorem sum_nil (w : World) (ht : Tabs w) :
    Calls Tryd.prog 31 #[.pointer none] w fun e w' => e = .returned (.agg (vals .u8 (shaD [])).toArray) ∧ Below w.heap.size w w' := by
  have R := Blk.new w .u8 23 (List.replicate 32 0)
  have F : Below w.heap.size w (w.alloc (.cells (vals .u8 (List.replicate 32 0)).toArray 23)) := (Below.refl _ _).alloc (Nat.le_refl _) _
  have K : Tabs (w.alloc (.cells (vals .u8 (List.replicate 32 0)).toArray 23)) := ⟨ht.start.alloc _, ht.keys.alloc _⟩
  clear ht
  rw [zeros32] at R F K
  go_enter Tryd.func31, Tryd.ntmps31
  go_upto_region 1 with (fail)
  generalize w.alloc (.cells #[.int .u8 0, .int .u8 0, .int .u8 0, .int .u8 0, .int .u8 0, .int .u8 0, .int .u8 0, .int .u8 0, .int .u8 0, .int .u8 0, .int .u8 0, .int .u8 0, .int .u8 0, .int .u8 0, .int .u8 0, .int .u8 0, .int .u8 0, .int .u8 0, .int .u8 0, .int .u8 0, .int .u8 0, .int .u8 0, .int .u8 0, .int .u8 0, .int .u8 0, .int .u8 0, .int .u8 0, .int .u8 0, .int .u8 0, .int .u8 0, .int .u8 0, .int .u8 0] 23) = X at R K F ⊢
  go_wp2_with fail
  refine (new_any _ K).mono ?_
  rintro e X2 ⟨rfl, rfl⟩
  have N := new_is X
  have R2 := R.alloc (.cells (shaV start (List.replicate 64 0) 0).toArray 61)
  have F2 := F.alloc F.size (.cells (shaV start (List.replicate 64 0) 0).toArray 61)
  have K2 := K.keys.alloc (.cells (shaV start (List.replicate 64 0) 0).toArray 61)
  generalize X.alloc (.cells (shaV start (List.replicate 64 0) 0).toArray 61) = X2 at N R2 F2 K2 ⊢
  clear R F K
  go_wp2_with fail
  refine (sum_any N K2 (by simp)).mono ?_
  rintro e X3 ⟨rfl, hb⟩
  have R3 := R2.below hb R2.lt
  have F3 := F2.trans (hb.mono F2.size)
  have S1 := R3.stores (P := Tryd.prog) (ty := 23) (l' := shaD []) (by rw [shaD_len]; kernel_rfl) (by rw [shaD_len, zeros32n])
  go_wp2_with (refine wpl_store S1 rfl rfl rfl rfl rfl ?_)
  exact bodyPost_ret (results_cell_row Tryd.results31 _ _ w.heap.size 23 (vals .u8 (shaD [])).toArray (0, 0) _ rfl (R3.row _).heap Tryd.underlying23 rfl (by simp only [List.size_toArray, vals_len, shaD_len]; kernel_rfl)) rfl ⟨rfl, below_row F3 (Nat.le_refl _)⟩

/-- v reads as the texts ss in w -/
structure StrsAt (w : World) (v : Value) (ss : List ByteArray) : Prop where
  is : ∃ base cap, v = .slice base ss.length cap ∧ ∀ j s, ss[j]? = some s → ∃ a : Addr, base = some a ∧ a.block < w.heap.size ∧ w.cell? (a.add j) = some (.string s)
def allB (ss : List ByteArray) : List Nat := (ss.map bl).flatten
theorem allB_snoc (ss : List ByteArray) (k : Nat) (s : ByteArray) (h : ss[k]? = some s) : allB (ss.take (k + 1)) = allB (ss.take k) ++ bl s := by
  unfold allB
  rw [List.take_add_one, h]
  simp
theorem allB_take_le (ss : List ByteArray) (k : Nat) (s : ByteArray) (h : ss[k]? = some s) : (allB (ss.take k)).length + s.size ≤ (allB ss).length := by
  have e := allB_snoc ss k s h
  have h2 : allB ss = allB (ss.take (k + 1)) ++ allB (ss.drop (k + 1)) := by
    unfold allB
    rw [← List.flatten_append, ← List.map_append, List.take_append_drop]
  rw [h2, e]
  simp [bl_len]
/-- what holds at each round of Of -/
def OfInv (w wr : World) (ss : List ByteArray) (k : Nat) : Prop := (∃ blk, ShaIs wr (w.heap.size + 1) (allB (ss.take k)) blk) ∧ Blk wr w.heap.size .u8 23 (List.replicate 32 0) ∧ Below w.heap.size w wr
theorem below_but {B : Nat} {w a b : World} (h : Below w.heap.size w a) (k : But B a b) (hB : w.heap.size ≤ B) : Below w.heap.size w b := h.trans (k.below hB h.size)

set_option maxRecDepth 100000 in
set_option maxHeartbeats 4000000 in
theorem of_any {w : World} {v : Value} {ss : List ByteArray} (hv : StrsAt w v ss) (ht : Tabs w) (hn : (allB ss).length ≤ 1099511627776) (hl : ss.length ≤ 1099511627776) :
    Calls Tryd.prog 22 #[v] w fun e w' => e = .returned (.agg (vals .u8 (shaD (allB ss))).toArray) ∧ Below w.heap.size w w' := by
  obtain ⟨base, cap, rfl, hc⟩ := hv.is
  clear hv
  have HC := Lib.hid hc
  have HT := Lib.hid ht
  have t1 := ht.keys.lt
  have R := Blk.new w .u8 23 (List.replicate 32 0)
  have F : Below w.heap.size w (w.alloc (.cells (vals .u8 (List.replicate 32 0)).toArray 23)) := (Below.refl _ _).alloc (Nat.le_refl _) _
  have K : Tabs (w.alloc (.cells (vals .u8 (List.replicate 32 0)).toArray 23)) := ⟨ht.start.alloc _, ht.keys.alloc _⟩
  have Z : (w.alloc (.cells (vals .u8 (List.replicate 32 0)).toArray 23)).heap.size = w.heap.size + 1 := by simp
  clear ht hc
  rw [zeros32] at R F K Z
  go_enter Tryd.func22, Tryd.ntmps22
  go_upto_region 1 with (fail)
  generalize w.alloc (.cells #[.int .u8 0, .int .u8 0, .int .u8 0, .int .u8 0, .int .u8 0, .int .u8 0, .int .u8 0, .int .u8 0, .int .u8 0, .int .u8 0, .int .u8 0, .int .u8 0, .int .u8 0, .int .u8 0, .int .u8 0, .int .u8 0, .int .u8 0, .int .u8 0, .int .u8 0, .int .u8 0, .int .u8 0, .int .u8 0, .int .u8 0, .int .u8 0, .int .u8 0, .int .u8 0, .int .u8 0, .int .u8 0, .int .u8 0, .int .u8 0, .int .u8 0, .int .u8 0] 23) = X at R K F Z ⊢
  go_wp2_with fail
  refine (new_any _ K).mono ?_
  rintro e X2 ⟨rfl, rfl⟩
  have N := new_is X
  have R2 := R.alloc (.cells (shaV start (List.replicate 64 0) 0).toArray 61)
  have F2 := F.alloc F.size (.cells (shaV start (List.replicate 64 0) 0).toArray 61)
  rw [Z] at N ⊢
  generalize X.alloc (.cells (shaV start (List.replicate 64 0) 0).toArray 61) = X2 at N R2 F2 ⊢
  clear R F K Z
  go_wp2
  go_loopw [9] (fun i wr => ∃ k : Nat, k ≤ ss.length ∧ i = .int .i64 k ∧ OfInv w wr ss k) (fun i _ => ss.length - (intOf i).toNat)
  case atStart => exact ⟨0, Nat.zero_le _, rfl, ⟨_, N⟩, R2, F2⟩
  case round =>
    clear N R2 F2
    obtain ⟨k, hk, rfl, hI⟩ := hrel
    have HI := Lib.hid hI
    clear hI
    obtain ⟨⟨blk, I⟩, R, F⟩ := HI.out
    have T2 := HT.out.below F t1
    by_cases hlt : k < ss.length
    · obtain ⟨s, hs⟩ : ∃ s, ss[k]? = some s := ⟨ss[k], List.getElem?_eq_getElem hlt⟩
      obtain ⟨a, rfl, ha, hcell⟩ := HC.out k s hs
      have HS := Lib.hid hs
      have hle := allB_take_le ss k s hs
      clear hs
      have c1 : wr.cell? (a.add k) = some (.string s) := by
        rw [F.cell (by have : (a.add k).block = a.block := by unfold Addr.add; split <;> rfl
                       rw [this]; exact ha)]
        exact hcell
      have l1 : (k : Int) < (ss.length : Int) := by omega
      clear hcell
      go_wp2_with fail
      refine (write_any s I T2.keys (by omega) (by omega)).mono ?_
      rintro e w' ⟨rfl, ⟨blk2, I2⟩, hBut⟩
      go_wp2
      go_roundw
      case rel =>
        refine ⟨k + 1, by omega, by go_num, ⟨blk2, ?_⟩, ⟨by rw [hBut.block _ R.lt (by omega)]; exact R.heap⟩, below_but F hBut (by omega)⟩
        rw [allB_snoc ss k s HS.out]
        exact I2
      case measure => simp [intOf]; omega
    · have e : ss.take k = ss := List.take_of_length_le (by omega)
      rw [e] at I
      have l1 : ¬ (k : Int) < (ss.length : Int) := by omega
      go_wp2_with fail
      refine (sum_any I T2.keys hn).mono ?_
      rintro e X3 ⟨rfl, hb⟩
      have R3 := R.below hb R.lt
      have F3 := F.trans (hb.mono F.size)
      have S1 := R3.stores (P := Tryd.prog) (ty := 23) (l' := shaD (allB ss)) (by rw [shaD_len]; kernel_rfl) (by rw [shaD_len, zeros32n])
      go_wp2_with (refine wpl_store S1 rfl rfl rfl rfl rfl ?_)
      exact bodyPost_ret (results_cell_row Tryd.results22 _ _ w.heap.size 23 (vals .u8 (shaD (allB ss))).toArray (0, 0) _ rfl (R3.row _).heap Tryd.underlying23 rfl (by simp only [List.size_toArray, vals_len, shaD_len]; kernel_rfl)) rfl ⟨rfl, below_row F3 (Nat.le_refl _)⟩
end Go.Proofs.YtmnkhcefdpcheaaDoor.Sh
