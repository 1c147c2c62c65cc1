/-
  Contract of sha.ended: the state behind the bytes and what ends them; nothing that was there is changed.
-/
import Derived.Test.YtmnkhcefdpcheaaDoorShObj
import Derived.Deep.WholeRow
import Derived.Deep.DeepCutAuto
namespace Go.Proofs.YtmnkhcefdpcheaaDoor.Sh
open Go.RowKit
set_option linter.unusedVariables false

/-- the mark behind the bytes -/
def pad1 (blk : List Nat) (u : Nat) : List Nat := (blk.set u 128).take (u + 1) ++ List.replicate (63 - u) 0
/-- the number of bits, the lowest byte last -/
def sizeTo (blk : List Nat) (m : Nat) : Nat → List Nat
  | 0 => blk
  | k + 1 => (sizeTo blk m k).set (63 - k) (m / 256 ^ k % 256)
def endL (st blk : List Nat) (n : Nat) : List Nat :=
  if 56 ≤ n % 64 then mixL (mixL st (pad1 blk (n % 64))) (sizeTo (List.replicate 64 0) (8 * n) 8) else mixL st (sizeTo (pad1 blk (n % 64)) (8 * n) 8)
theorem pad1_len {blk : List Nat} {u : Nat} (h : blk.length = 64) (hu : u < 64) : (pad1 blk u).length = 64 := by simp [pad1, h]; omega
theorem sizeTo_len (blk : List Nat) (m : Nat) : ∀ k, (sizeTo blk m k).length = blk.length
  | 0 => rfl
  | k + 1 => by simp [sizeTo, sizeTo_len blk m k]
theorem lt_append {m : Nat} {a b : List Nat} (ha : Lt m a) (hb : Lt m b) : Lt m (a ++ b) := by
  intro i
  have h1 := ha i
  have h2 := hb (i - a.length)
  unfold at0 at *
  simp only [List.getD_eq_getElem?_getD, List.getElem?_append] at *
  split
  · exact h1
  · exact h2
theorem lt_take {m : Nat} (hm : 0 < m) {a : List Nat} (ha : Lt m a) (k : Nat) : Lt m (a.take k) := by
  intro i
  have h1 := ha i
  unfold at0 at *
  simp only [List.getD_eq_getElem?_getD, List.getElem?_take] at *
  split
  · exact h1
  · simpa using hm
theorem lt_zeros (k : Nat) : Lt 256 (List.replicate k 0) := lt_of_all (by decide) (by simp)
theorem pad1_lt {blk : List Nat} {u : Nat} (h : Lt 256 blk) : Lt 256 (pad1 blk u) := lt_append (lt_take (by decide) (h.set (by decide)) _) (lt_zeros _)
theorem sizeTo_lt {blk : List Nat} {m : Nat} (h : Lt 256 blk) : ∀ k, Lt 256 (sizeTo blk m k)
  | 0 => h
  | k + 1 => (sizeTo_lt h k).set (Nat.mod_lt _ (by decide))
theorem end_len (st blk : List Nat) (n : Nat) : (endL st blk n).length = 8 := by unfold endL; split <;> exact mix_len _ _
theorem end_lt (st blk : List Nat) (n : Nat) : Lt 4294967296 (endL st blk n) := by unfold endL; split <;> exact mix_lt _ _
theorem sizeTo_zero (blk : List Nat) (m : Nat) : sizeTo blk m 0 = blk := rfl
theorem sizeTo_succ (blk : List Nat) (m k : Nat) : sizeTo blk m (k + 1) = (sizeTo blk m k).set (63 - k) (m / 256 ^ k % 256) := rfl
theorem end_low {st blk : List Nat} {n : Nat} (h : ¬ 56 ≤ n % 64) : endL st blk n = mixL st (sizeTo (pad1 blk (n % 64)) (8 * n) 8) := by unfold endL; rw [if_neg h]
theorem end_high {st blk : List Nat} {n : Nat} (h : 56 ≤ n % 64) : endL st blk n = mixL (mixL st (pad1 blk (n % 64))) (sizeTo (List.replicate 64 0) (8 * n) 8) := by unfold endL; rw [if_pos h]
attribute [irreducible] sizeTo endL pad1

structure E4 (w wr : World) (st blk : List Nat) (n : Nat) : Prop where
  sh : ShaAt wr w.heap.size st blk n
  res : Blk wr (w.heap.size + 1) .u32 53 (List.replicate 8 0)
  keys : Tab wr 1 keys
  bel : Below w.heap.size w wr
theorem e4_init (w : World) {st blk : List Nat} (n : Nat) (h1 : st.length = 8) (h2 : blk.length = 64) (hk : Tab w 1 keys) :
    E4 w ((w.alloc (.cells (shaV st blk n).toArray 61)).alloc (.cells #[.int .u32 0, .int .u32 0, .int .u32 0, .int .u32 0, .int .u32 0, .int .u32 0, .int .u32 0, .int .u32 0] 53)) st blk n := by
  rw [← zeros8]
  refine ⟨(ShaAt.new w n h1 h2).alloc _, ?_, (hk.alloc _).alloc _, ((Below.refl _ _).alloc (Nat.le_refl _) _).alloc (by simp) _⟩
  have := Blk.new (w.alloc (.cells (shaV st blk n).toArray 61)) .u32 53 (List.replicate 8 0)
  simpa using this
theorem E4.setByte {w wr : World} {st blk : List Nat} {n : Nat} (h : E4 w wr st blk n) (hk : 1 < w.heap.size) {j : Nat} (hj : j < 64) (v : Nat) : E4 w (wr.setCell ⟨w.heap.size, 8 + j, none⟩ (.int .u8 (v : Int))) st (blk.set j v) n :=
  ⟨h.sh.setByte hj v, h.res.other (by simp) _, h.keys.other (by simp; omega) _, h.bel.setCell (by simp) _⟩
theorem E4.row {w wr : World} {st blk st' blk' : List Nat} {n : Nat} (h : E4 w wr st blk n) (hk : 1 < w.heap.size) (m : Nat) (h1 : st'.length = 8) (h2 : blk'.length = 64) : E4 w (wr.setRow w.heap.size (shaV st' blk' m).toArray) st' blk' m :=
  ⟨h.sh.row m h1 h2, h.res.rowOther (by simp), h.keys.rowOther (by omega), below_row h.bel (Nat.le_refl _)⟩
theorem E4.below {w wr w' : World} {st blk : List Nat} {n : Nat} (h : E4 w wr st blk n) (hb : Below wr.heap.size wr w') : E4 w w' st blk n :=
  ⟨h.sh.below hb h.sh.lt, h.res.below hb h.res.lt, h.keys.below hb h.keys.lt, h.bel.trans (hb.mono h.bel.size)⟩
theorem zero8 (w : World) : (zeroValue 5).run Tryd.prog w = .ok (.int .u8 0) w := (zero_of_info (P := Tryd.prog) (t := 5) (v := .int .u8 0) (n := 1) (by kernel_rfl)).1 w

/-- what is cleared behind the mark -/
theorem pad_step {w X : World} {st blk : List Nat} {n u : Nat} (hk : 1 < w.heap.size) (E : E4 w X st (blk.set u 128) n) (h3 : blk.length = 64) (hu : u < 64) : ∃ a Y,
    (Instr.sliceAt 58 (.pointer (some ⟨w.heap.size, 8, none⟩)) (some (.int .u64 ((u : Int) + 1))) none none).run Tryd.prog X = .ok (.slice (some a) (63 - u) (63 - u)) X ∧
    (∀ ty, (Builtin.clear_ #[44] ty #[.slice (some a) (63 - u) (63 - u)]).run Tryd.prog X = .ok (.tuple #[]) Y) ∧ E4 w Y st (pad1 blk u) n := by
  by_cases h : u = 63
  · subst h
    refine ⟨⟨w.heap.size, 8, none⟩, X, ?_, fun ty => ?_, ?_⟩
    · exact slice_end Tryd.underlying58 (by kernel_rfl) _ _ _
    · simp [Builtin.clear_, run_underlying (Tryd.underlying44)]
    · have : pad1 blk 63 = blk.set 63 128 := by unfold pad1; simp [List.take_of_length_le, h3]
      rw [this]; exact E
  · rw [show 63 - u = 64 - (u + 1) by omega]
    refine ⟨⟨w.heap.size, 8 + (u + 1), none⟩, _, ?_, fun ty => E.sh.clear Tryd.underlying44 zero8 (u + 1) (by omega), ?_⟩
    · have := slice_lt (P := Tryd.prog) Tryd.underlying58 (by kernel_rfl) w.heap.size 8 (u + 1) (by omega) X
      exact this
    · have e : (blk.set u 128).take (u + 1) ++ List.replicate (64 - (u + 1)) 0 = pad1 blk u := by unfold pad1; rw [show 64 - (u + 1) = 63 - u by omega]
      rw [e]
      exact E.row hk n E.sh.ls (pad1_len h3 hu)
theorem zeros64b : (vals .u8 (List.replicate 64 0)).toArray = #[.int .u8 0, .int .u8 0, .int .u8 0, .int .u8 0, .int .u8 0, .int .u8 0, .int .u8 0, .int .u8 0, .int .u8 0, .int .u8 0, .int .u8 0, .int .u8 0, .int .u8 0, .int .u8 0, .int .u8 0, .int .u8 0, .int .u8 0, .int .u8 0, .int .u8 0, .int .u8 0, .int .u8 0, .int .u8 0, .int .u8 0, .int .u8 0, .int .u8 0, .int .u8 0, .int .u8 0, .int .u8 0, .int .u8 0, .int .u8 0, .int .u8 0, .int .u8 0, .int .u8 0, .int .u8 0, .int .u8 0, .int .u8 0, .int .u8 0, .int .u8 0, .int .u8 0, .int .u8 0, .int .u8 0, .int .u8 0, .int .u8 0, .int .u8 0, .int .u8 0, .int .u8 0, .int .u8 0, .int .u8 0, .int .u8 0, .int .u8 0, .int .u8 0, .int .u8 0, .int .u8 0, .int .u8 0, .int .u8 0, .int .u8 0, .int .u8 0, .int .u8 0, .int .u8 0, .int .u8 0, .int .u8 0, .int .u8 0, .int .u8 0, .int .u8 0] := by rfl
theorem div256 (m k : Nat) : m / 256 ^ k / 256 = m / 256 ^ (k + 1) := by rw [Nat.div_div_eq_div_mul, Nat.pow_succ]

set_option maxRecDepth 100000 in
set_option maxHeartbeats 4000000 in
theorem ended_any (st blk : List Nat) (n : Nat) (w : World) (h1 : st.length = 8) (h2 : Lt 4294967296 st) (h3 : blk.length = 64) (h4 : Lt 256 blk) (hn : n ≤ 1099511627776) (hk : Tab w 1 keys) :
    Calls Tryd.prog 38 #[.agg (shaV st blk n).toArray] w fun e w' => e = .returned (.agg (vals .u32 (endL st blk n)).toArray) ∧ Below w.heap.size w w' := by
  have H1 := Lib.hid h1
  have H2 := Lib.hid h2
  have H3 := Lib.hid h3
  have H4 := Lib.hid h4
  have HK := Lib.hid hk
  have klt := hk.lt
  clear h1 h2 h3 h4 hk
  obtain ⟨u, hu⟩ : ∃ u, u = n % 64 := ⟨_, rfl⟩
  have E := e4_init w n H1.out H3.out HK.out
  have hul : u < 64 := by omega
  have HU := Lib.hid hu
  go_enter Tryd.func38, Tryd.ntmps38
  go_upto_region 1 with (fail)
  generalize ((w.alloc (.cells (shaV st blk n).toArray 61)).alloc (.cells #[.int .u32 0, .int .u32 0, .int .u32 0, .int .u32 0, .int .u32 0, .int .u32 0, .int .u32 0, .int .u32 0] 53)) = X at E ⊢
  have c72 := E.sh.size
  have hun : (n : Int) % 64 = (u : Int) := by omega
  clear hu
  have c1 := E.sh.byte hul
  have f1 := E.sh.frozen (8 + u)
  go_upto_region 3 with (fail)
  rw [hun]
  have E1 := E.setByte klt hul 128
  rw [show (((128 : Nat)) : Int) = 128 from rfl] at E1
  clear E c72 c1 f1 hun
  generalize X.setCell ⟨w.heap.size, 8 + u, none⟩ (.int .u8 128) = X1 at E1 ⊢
  obtain ⟨a, X2, hsl, hcl, E2⟩ := pad_step klt E1 H3.out hul
  have s1 : IntKind.u64.wrap ((u : Int) + 1) = (u : Int) + 1 := IntWalk.u64_in _ (by omega)
  go_upto_region 4 with (fail)
  clear hsl hcl E1 s1
  by_cases h56 : 56 ≤ u
  · have HE := Lib.hid (end_high (st := st) (blk := blk) (n := n) (by rw [← HU.out]; exact h56))
    rw [← HU.out] at HE
    have h56' : (56 : Int) ≤ (u : Int) := by omega
    have L1 := E2.sh.loadState (P := Tryd.prog) (ty := 53) (by kernel_rfl) (by kernel_rfl)
    have L2 := E2.sh.loadBlock (P := Tryd.prog) (ty := 58) (by kernel_rfl) (by kernel_rfl)
    go_wp2_with (first | refine wpl_load L1 rfl rfl rfl ?_ | refine wpl_load L2 rfl rfl rfl ?_)
    refine (mixed_any st (pad1 blk u) _ H1.out H2.out (pad1_len H3.out hul) (pad1_lt H4.out) E2.keys).mono ?_
    rintro e X3 ⟨rfl, hb⟩
    have E3 := E2.below hb
    clear hb L1 L2 E2
    have S1 := E3.sh.storeState (P := Tryd.prog) (ty := 53) (mix_len st (pad1 blk u)) (by kernel_rfl)
    have E4' := E3.row klt n (mix_len st (pad1 blk u)) E3.sh.lb
    have S2 := E4'.sh.storeBlock (P := Tryd.prog) (ty := 58) (blk' := List.replicate 64 0) (by simp) (by kernel_rfl)
    rw [zeros64b] at S2
    have E5 := E4'.row klt n (mix_len st (pad1 blk u)) (show (List.replicate 64 0).length = 64 by simp)
    generalize hY : (World.setRow (World.setRow X3 _ _) _ _) = Y at S2 E5
    clear hY
    go_upto_region 7 with (first | refine wpl_store S1 rfl rfl rfl rfl rfl ?_ | refine wpl_store S2 rfl rfl rfl rfl rfl ?_)
    clear S1 S2 E3 E4'
    have HL := Lib.hid (mix_len st (pad1 blk u))
    have HM := Lib.hid (mix_lt st (pad1 blk u))
    have HB := Lib.hid (show (List.replicate 64 0).length = 64 by simp)
    have HBL := Lib.hid (lt_zeros 64)
    generalize mixL st (pad1 blk u) = st' at HL HM HE E5 ⊢
    generalize List.replicate 64 0 = b' at HB HBL HE E5
    have c72 := E5.sh.size
    have s1 : IntKind.u64.wrap (8 * (n : Int)) = ((8 * n : Nat) : Int) := by rw [IntWalk.u64_in _ (by omega)]; omega
    go_wp2
    go_loopw [4, 5] (fun z i wr => ∃ k : Nat, k ≤ 8 ∧ i = .int .i64 (63 - (k : Int)) ∧ z = .int .u64 ((8 * n / 256 ^ k : Nat) : Int) ∧ E4 w wr st' (sizeTo b' (8 * n) k) n) (fun _ i _ => (intOf i).toNat)
    case atStart => exact ⟨0, Nat.zero_le _, by simp, by simp, by rw [sizeTo_zero]; exact E5⟩
    case round =>
      clear E5 c72 s1
      obtain ⟨k, hk, rfl, rfl, E⟩ := hrel
      by_cases hlt : k < 8
      · obtain ⟨a0, b0, d0⟩ := ix (x := 63 - (k : Int)) (n := 63 - k) (by omega) (by omega)
        have l0 : 63 - (k : Int) < 64 := by omega
        have l1 : (56 : Int) ≤ 63 - (k : Int) := by omega
        have c1 := E.sh.byte (j := 63 - k) (by omega)
        have f1 := E.sh.frozen (8 + (63 - k))
        have HD := Lib.hid (div256 (8 * n) k)
        have E6 := E.setByte klt (j := 63 - k) (by omega) (8 * n / 256 ^ k % 256)
        rw [← sizeTo_succ] at E6
        generalize 8 * n / 256 ^ k = m at HD E6 ⊢
        clear E
        go_wp2
        go_roundw
        case rel => exact ⟨k + 1, by omega, by go_num, by rw [← HD.out]; simp, E6⟩
        case measure => simp [intOf]; omega
      · obtain rfl : k = 8 := by omega
        clear hlt hk
        have L1 := E.sh.loadState (P := Tryd.prog) (ty := 53) (by kernel_rfl) (by kernel_rfl)
        have L2 := E.sh.loadBlock (P := Tryd.prog) (ty := 58) (by kernel_rfl) (by kernel_rfl)
        go_wp2_with (first | refine wpl_load L1 rfl rfl rfl ?_ | refine wpl_load L2 rfl rfl rfl ?_)
        refine (mixed_any st' (sizeTo b' (8 * n) 8) _ HL.out HM.out (by rw [sizeTo_len]; exact HB.out) (sizeTo_lt HBL.out 8) E.keys).mono ?_
        rintro e X9 ⟨rfl, hb⟩
        have E7 := E.below hb
        clear hb L1 L2 E
        have S1 := E7.res.stores (P := Tryd.prog) (ty := 53) (l' := mixL st' (sizeTo b' (8 * n) 8)) (by rw [mix_len]; kernel_rfl) (by rw [mix_len]; rfl)
        go_wp2_with (refine wpl_store S1 rfl rfl rfl rfl rfl ?_)
        rw [HE.out]
        exact bodyPost_ret (results_cell_row Tryd.results38 _ _ (w.heap.size + 1) 53 (vals .u32 (mixL st' (sizeTo b' (8 * n) 8))).toArray (0, 0) _ rfl (E7.res.row _).heap Tryd.underlying53 rfl (by simp only [List.size_toArray, vals_len, mix_len]; kernel_rfl)) rfl ⟨rfl, below_row E7.bel (by omega)⟩
  · have HE := Lib.hid (end_low (st := st) (blk := blk) (n := n) (by rw [← HU.out]; exact h56))
    rw [← HU.out] at HE
    have h56' : (u : Int) < (56 : Int) := by omega
    go_upto_region 7 with (fail)
    have HL := H1
    have HM := H2
    have HB := Lib.hid (pad1_len H3.out hul)
    have HBL := Lib.hid (pad1_lt (u := u) H4.out)
    have E5 := E2
    clear E2
    generalize pad1 blk u = b' at HB HBL HE E5 ⊢
    have c72 := E5.sh.size
    have s1 : IntKind.u64.wrap (8 * (n : Int)) = ((8 * n : Nat) : Int) := by rw [IntWalk.u64_in _ (by omega)]; omega
    go_wp2
    go_loopw [4, 5] (fun z i wr => ∃ k : Nat, k ≤ 8 ∧ i = .int .i64 (63 - (k : Int)) ∧ z = .int .u64 ((8 * n / 256 ^ k : Nat) : Int) ∧ E4 w wr st (sizeTo b' (8 * n) k) n) (fun _ i _ => (intOf i).toNat)
    case atStart => exact ⟨0, Nat.zero_le _, by simp, by simp, by rw [sizeTo_zero]; exact E5⟩
    case round =>
      clear E5 c72 s1
      obtain ⟨k, hk, rfl, rfl, E⟩ := hrel
      by_cases hlt : k < 8
      · obtain ⟨a0, b0, d0⟩ := ix (x := 63 - (k : Int)) (n := 63 - k) (by omega) (by omega)
        have l0 : 63 - (k : Int) < 64 := by omega
        have l1 : (56 : Int) ≤ 63 - (k : Int) := by omega
        have c1 := E.sh.byte (j := 63 - k) (by omega)
        have f1 := E.sh.frozen (8 + (63 - k))
        have HD := Lib.hid (div256 (8 * n) k)
        have E6 := E.setByte klt (j := 63 - k) (by omega) (8 * n / 256 ^ k % 256)
        rw [← sizeTo_succ] at E6
        generalize 8 * n / 256 ^ k = m at HD E6 ⊢
        clear E
        go_wp2
        go_roundw
        case rel => exact ⟨k + 1, by omega, by go_num, by rw [← HD.out]; simp, E6⟩
        case measure => simp [intOf]; omega
      · obtain rfl : k = 8 := by omega
        clear hlt hk
        have L1 := E.sh.loadState (P := Tryd.prog) (ty := 53) (by kernel_rfl) (by kernel_rfl)
        have L2 := E.sh.loadBlock (P := Tryd.prog) (ty := 58) (by kernel_rfl) (by kernel_rfl)
        go_wp2_with (first | refine wpl_load L1 rfl rfl rfl ?_ | refine wpl_load L2 rfl rfl rfl ?_)
        refine (mixed_any st (sizeTo b' (8 * n) 8) _ HL.out HM.out (by rw [sizeTo_len]; exact HB.out) (sizeTo_lt HBL.out 8) E.keys).mono ?_
        rintro e X9 ⟨rfl, hb⟩
        have E7 := E.below hb
        clear hb L1 L2 E
        have S1 := E7.res.stores (P := Tryd.prog) (ty := 53) (l' := mixL st (sizeTo b' (8 * n) 8)) (by rw [mix_len]; kernel_rfl) (by rw [mix_len]; rfl)
        go_wp2_with (refine wpl_store S1 rfl rfl rfl rfl rfl ?_)
        rw [HE.out]
        exact bodyPost_ret (results_cell_row Tryd.results38 _ _ (w.heap.size + 1) 53 (vals .u32 (mixL st (sizeTo b' (8 * n) 8))).toArray (0, 0) _ rfl (E7.res.row _).heap Tryd.underlying53 rfl (by simp only [List.size_toArray, vals_len, mix_len]; kernel_rfl)) rfl ⟨rfl, below_row E7.bel (by omega)⟩
end Go.Proofs.YtmnkhcefdpcheaaDoor.Sh
