/-
  Contracts of the document's answers for layer 4 (mancipleref04): the same as those of package stamp.
-/
import Derived.Test.YtmnkhcefdpcheaaDoorStBehind
import Derived.Test.YtmnkhcefdpcheaaDoorHxRefB
import Derived.Test.YtmnkhcefdpcheaaDoorShEq
namespace Go.Proofs.YtmnkhcefdpcheaaDoor.St
open Go.RowKit Go.PlainAid Go.Proofs.YtmnkhcefdpcheaaDoor.Sh
set_option linter.unusedVariables false

set_option maxRecDepth 100000 in
theorem rdigits_any {d : List Nat} (hd : Dig d) (w : World) :
    Calls Tryd.prog 21 #[.agg (vals .u8 d).toArray] w fun e w' => e = .returned (.string (hexD d)) ∧ Below w.heap.size w w' := by
  have HD := Lib.hid hd
  have R := Blk.new w .u8 23 d
  have F : Below w.heap.size w (w.alloc (.cells (vals .u8 d).toArray 23)) := (Below.refl _ _).alloc (Nat.le_refl _) _
  clear hd
  go_enter Tryd.func21, Tryd.ntmps21
  go_upto_region 1 with (fail)
  generalize w.alloc (.cells (vals .u8 d).toArray 23) = X at R F ⊢
  have hcv := conv_dig R HD.out
  go_wp2_with fail
  refine (Hx.rhex_any _ _ (by rw [Hx.size_mk, u8s_len, HD.out.len]; decide)).mono ?_
  rintro e w' ⟨rfl, hb⟩
  have F2 := F.trans (hb.mono F.size)
  clear hcv hb R F
  go_wp2
  go_ret
  exact ⟨rfl, F2⟩

set_option maxRecDepth 100000 in
theorem rprint_any {d : List Nat} (hd : Dig d) (w : World) :
    Calls Tryd.prog 11 #[.agg (vals .u8 d).toArray] w fun e w' => e = .returned (.string (txt ⟨#[115, 104, 97, 50, 53, 54, 58]⟩ d)) ∧ Below w.heap.size w w' := by
  have HD := Lib.hid hd
  have R := Blk.new w .u8 23 d
  have F : Below w.heap.size w (w.alloc (.cells (vals .u8 d).toArray 23)) := (Below.refl _ _).alloc (Nat.le_refl _) _
  have hz := hexD_size hd
  have L1 := R.loads (P := Tryd.prog) (ty := 23) (by kernel_rfl) (by rw [hd.len]; kernel_rfl)
  clear hd
  go_enter Tryd.func11, Tryd.ntmps11
  go_upto_region 1 with (fail)
  generalize w.alloc (.cells (vals .u8 d).toArray 23) = X at R F L1 ⊢
  go_wp2_with (refine wpl_load L1 rfl rfl rfl ?_)
  refine (rdigits_any HD.out _).mono ?_
  rintro e w' ⟨rfl, hb⟩
  have F2 := F.trans (hb.mono F.size)
  clear L1 hb R F
  go_wp2
  go_ret
  exact ⟨rfl, F2⟩
set_option maxRecDepth 100000 in
theorem rfile_any {d : List Nat} (hd : Dig d) (w : World) :
    Calls Tryd.prog 13 #[.agg (vals .u8 d).toArray] w fun e w' => e = .returned (.string (txt ⟨#[98, 108, 111, 98, 45]⟩ d)) ∧ Below w.heap.size w w' := by
  have HD := Lib.hid hd
  have R := Blk.new w .u8 23 d
  have F : Below w.heap.size w (w.alloc (.cells (vals .u8 d).toArray 23)) := (Below.refl _ _).alloc (Nat.le_refl _) _
  have hz := hexD_size hd
  have L1 := R.loads (P := Tryd.prog) (ty := 23) (by kernel_rfl) (by rw [hd.len]; kernel_rfl)
  clear hd
  go_enter Tryd.func13, Tryd.ntmps13
  go_upto_region 1 with (fail)
  generalize w.alloc (.cells (vals .u8 d).toArray 23) = X at R F L1 ⊢
  go_wp2_with (refine wpl_load L1 rfl rfl rfl ?_)
  refine (rdigits_any HD.out _).mono ?_
  rintro e w' ⟨rfl, hb⟩
  have F2 := F.trans (hb.mono F.size)
  clear L1 hb R F
  go_wp2
  go_ret
  exact ⟨rfl, F2⟩

set_option maxRecDepth 100000 in
theorem rof_one (s : ByteArray) (w : World) (hs : s.size ≤ 1048576) :
    Calls Tryd.prog 17 #[.string s] w fun e w' => e = .returned (.agg (vals .u8 (shaD (bl s))).toArray) ∧ Below w.heap.size w w' := by
  have R := Blk.new w .u8 23 zeros
  have F : Below w.heap.size w (w.alloc (.cells (vals .u8 zeros).toArray 23)) := (Below.refl _ _).alloc (Nat.le_refl _) _
  rw [zeros_vals] at R F
  go_enter Tryd.func17, Tryd.ntmps17
  go_upto_region 1 with (fail)
  generalize w.alloc (.cells #[.int .u8 0, .int .u8 0, .int .u8 0, .int .u8 0, .int .u8 0, .int .u8 0, .int .u8 0, .int .u8 0, .int .u8 0, .int .u8 0, .int .u8 0, .int .u8 0, .int .u8 0, .int .u8 0, .int .u8 0, .int .u8 0, .int .u8 0, .int .u8 0, .int .u8 0, .int .u8 0, .int .u8 0, .int .u8 0, .int .u8 0, .int .u8 0, .int .u8 0, .int .u8 0, .int .u8 0, .int .u8 0, .int .u8 0, .int .u8 0, .int .u8 0, .int .u8 0] 23) = X at R F ⊢
  go_wp2_with fail
  refine (rof_any _ _ hs).mono ?_
  rintro e X1 ⟨rfl, hb⟩
  rw [ref_eq]
  have R1 := R.below hb R.lt
  have F1 := F.trans (hb.mono F.size)
  clear R F hb
  have hd : Dig (shaD (bl s)) := ⟨shaD_len _, shaD_lt _⟩
  have S0 := Blk.dig_stores R1 zeros_dig hd
  have R0 := R1.row (shaD (bl s))
  have F0 : Below w.heap.size w (X1.setRow w.heap.size (vals .u8 (shaD (bl s))).toArray) := below_row F1 (Nat.le_refl _)
  clear hd R1 F1
  generalize X1.setRow w.heap.size (vals .u8 (shaD (bl s))).toArray = Y at S0 R0 F0
  go_wp2_with (refine wpl_store S0 rfl rfl rfl rfl rfl ?_)
  exact bodyPost_ret (results_cell_row Tryd.results17 _ _ w.heap.size 23 (vals .u8 (shaD (bl s))).toArray (0, 0) _ rfl R0.heap Tryd.underlying23 rfl (by simp only [List.size_toArray, vals_len, shaD_len]; kernel_rfl)) rfl ⟨rfl, F0⟩

set_option maxRecDepth 100000 in
set_option maxHeartbeats 1000000 in
theorem rless_any {a b : List Nat} (ha : Dig a) (hb : Dig b) (w : World) :
    Calls Tryd.prog 15 #[.agg (vals .u8 a).toArray, .agg (vals .u8 b).toArray] w fun e w' => e = .returned (.bool (lessL a b)) ∧ Below w.heap.size w w' := by
  have HA := Lib.hid ha
  have HB := Lib.hid hb
  have T := two_new w a b
  clear ha hb
  go_enter Tryd.func15, Tryd.ntmps15
  go_upto_region 1 with (fail)
  generalize ((w.alloc (.cells (vals .u8 a).toArray 23)).alloc (.cells (vals .u8 b).toArray 23)) = X at T ⊢
  go_wp2
  go_loopw [5] (fun i wr => ∃ k : Nat, k ≤ 32 ∧ i = .int .i64 k ∧ a.take k = b.take k ∧ Two w wr a b) (fun i _ => 32 - (intOf i).toNat)
  case atStart => exact ⟨0, by decide, rfl, by simp, T⟩
  case round =>
    clear T
    obtain ⟨k, hk, rfl, ht, T⟩ := hrel
    by_cases hlt : k < 32
    · have c1 := T.a.cell (j := k) (by rw [HA.out.len]; exact hlt)
      have c2 := T.b.cell (j := k) (by rw [HB.out.len]; exact hlt)
      have l1 : (k : Int) < 32 := by omega
      have l2 : decide ((k : Int) < 32) = true := by simp; omega
      by_cases he : at0 a k = at0 b k
      · have g : ((at0 a k : Int) != (at0 b k : Int)) = false := by rw [he]; simp
        have HE := Lib.hid he
        clear he
        go_wp2
        go_quiet (fail)
        go_wp2
        have hm := take_more (k := k) (by rw [HA.out.len]; exact hlt) (by rw [HA.out.len, HB.out.len]) ht HE.out
        go_roundw
        case rel => exact ⟨k + 1, by omega, by go_num, hm, T.heap rfl rfl rfl rfl⟩
        case measure => simp [intOf]; omega
      · have g : ((at0 a k : Int) != (at0 b k : Int)) = true := by rw [bne_iff_ne]; omega
        have HE := Lib.hid he
        clear he
        go_wp2
        go_quiet (fail)
        have T2 : Two w (wr.drewN nq) a b := T.heap rfl rfl rfl rfl
        clear T c1 c2
        generalize wr.drewN nq = wr2 at T2 ⊢
        have c1 := T2.a.cell (j := k) (by rw [HA.out.len]; exact hlt)
        have c2 := T2.b.cell (j := k) (by rw [HB.out.len]; exact hlt)
        go_wp2
        go_quiet (fail)
        go_wp2
        go_ret
        refine ⟨?_, (T2.heap (wr' := wr2.drewN _) rfl rfl rfl rfl).bel⟩
        rw [less_at (k := k) (by rw [HA.out.len]; exact hlt) (by rw [HA.out.len, HB.out.len]) ht HE.out]
        congr 3
    · have l2 : decide ((k : Int) < 32) = false := by simp; omega
      go_wp2
      go_ret
      refine ⟨?_, T.bel⟩
      rw [List.take_of_length_le (by rw [HA.out.len]; omega), List.take_of_length_le (by rw [HB.out.len]; omega)] at ht
      rw [ht, less_self]
      rfl

/-- the first k bytes of a digest, zeros behind them -/
def part (d : List Nat) (k : Nat) : List Nat := d.take k ++ zeros.drop k
theorem part_len {d : List Nat} (hd : Dig d) {k : Nat} (hk : k ≤ 32) : (part d k).length = 32 := by
  unfold part zeros
  simp [hd.len]; omega
theorem part_zero (d : List Nat) : part d 0 = zeros := by simp [part]
theorem part_all {d : List Nat} (hd : Dig d) : part d 32 = d := by
  unfold part
  rw [List.take_of_length_le (by rw [hd.len]; exact Nat.le_refl _), List.drop_of_length_le (by simp [zeros]), List.append_nil]
theorem part_succ {d : List Nat} (hd : Dig d) {k : Nat} (hk : k < 32) : (part d k).set k (at0 d k) = part d (k + 1) := by
  have h1 : k < d.length := by rw [hd.len]; exact hk
  have h2 : k < zeros.length := by simp [zeros, hk]
  unfold part
  rw [List.take_succ_eq_append_getElem h1, List.drop_eq_getElem_cons h2, at0_lt h1, List.set_append_right _ _ (by simp; omega)]
  rw [List.length_take, show min k d.length = k by omega, Nat.sub_self, List.set_cons_zero, List.append_assoc, List.singleton_append]
structure Bh (w wr : World) (l : List Nat) : Prop where
  res : Blk wr w.heap.size .u8 23 zeros
  d : Blk wr (w.heap.size + 1) .u8 23 l
  bel : Below w.heap.size w wr
theorem Bh.below {w wr w' : World} {l : List Nat} (h : Bh w wr l) (hb : Below wr.heap.size wr w') : Bh w w' l := ⟨h.res.below hb h.res.lt, h.d.below hb h.d.lt, h.bel.trans (hb.mono h.bel.size)⟩
theorem Bh.step {w wr : World} {l : List Nat} (h : Bh w wr l) (j v : Nat) : Bh w (wr.setCell ⟨w.heap.size + 1, j, none⟩ (.int .u8 (v : Int))) (l.set j v) :=
  ⟨h.res.other (by simp) _, h.d.set j v, h.bel.setCell (by simp) _⟩
theorem bh_init (w : World) : ∃ X, Stores Tryd.prog ((w.alloc (.cells #[.int .u8 0, .int .u8 0, .int .u8 0, .int .u8 0, .int .u8 0, .int .u8 0, .int .u8 0, .int .u8 0, .int .u8 0, .int .u8 0, .int .u8 0, .int .u8 0, .int .u8 0, .int .u8 0, .int .u8 0, .int .u8 0, .int .u8 0, .int .u8 0, .int .u8 0, .int .u8 0, .int .u8 0, .int .u8 0, .int .u8 0, .int .u8 0, .int .u8 0, .int .u8 0, .int .u8 0, .int .u8 0, .int .u8 0, .int .u8 0, .int .u8 0, .int .u8 0] 23)).alloc (.cells #[.int .u8 0, .int .u8 0, .int .u8 0, .int .u8 0, .int .u8 0, .int .u8 0, .int .u8 0, .int .u8 0, .int .u8 0, .int .u8 0, .int .u8 0, .int .u8 0, .int .u8 0, .int .u8 0, .int .u8 0, .int .u8 0, .int .u8 0, .int .u8 0, .int .u8 0, .int .u8 0, .int .u8 0, .int .u8 0, .int .u8 0, .int .u8 0, .int .u8 0, .int .u8 0, .int .u8 0, .int .u8 0, .int .u8 0, .int .u8 0, .int .u8 0, .int .u8 0] 23)) 23 (w.heap.size + 1) 0 #[.int .u8 0, .int .u8 0, .int .u8 0, .int .u8 0, .int .u8 0, .int .u8 0, .int .u8 0, .int .u8 0, .int .u8 0, .int .u8 0, .int .u8 0, .int .u8 0, .int .u8 0, .int .u8 0, .int .u8 0, .int .u8 0, .int .u8 0, .int .u8 0, .int .u8 0, .int .u8 0, .int .u8 0, .int .u8 0, .int .u8 0, .int .u8 0, .int .u8 0, .int .u8 0, .int .u8 0, .int .u8 0, .int .u8 0, .int .u8 0, .int .u8 0, .int .u8 0] X ∧ Bh w X zeros := by
  rw [← zeros_vals]
  have R := (Blk.new w .u8 23 zeros).alloc (.cells (vals .u8 zeros).toArray 23)
  have N := Blk.new (w.alloc (.cells (vals .u8 zeros).toArray 23)) .u8 23 zeros
  rw [show (w.alloc (.cells (vals .u8 zeros).toArray 23)).heap.size = w.heap.size + 1 by simp] at N
  exact ⟨_, Blk.dig_stores N zeros_dig zeros_dig, R.rowOther (by omega), N.row _, below_row (((Below.refl _ _).alloc (Nat.le_refl _) _).alloc (by simp) _) (by omega)⟩
/-- the answer that there is none, given -/
theorem Bh.give {w wr : World} {l : List Nat} (h : Bh w wr l) (hl : Dig l) : ∃ Y, Loads Tryd.prog wr 23 (w.heap.size + 1) 0 (vals .u8 l).toArray ∧ Stores Tryd.prog wr 23 w.heap.size 0 (vals .u8 l).toArray Y ∧ Loads Tryd.prog Y 23 w.heap.size 0 (vals .u8 l).toArray ∧ Below w.heap.size w Y :=
  ⟨_, Blk.dig_loads h.d hl, Blk.dig_stores h.res zeros_dig hl, Blk.dig_loads (h.res.row l) hl, below_row h.bel (Nat.le_refl _)⟩

set_option maxRecDepth 100000 in
set_option maxHeartbeats 1000000 in
theorem rbehind_any (h s : ByteArray) (w : World) (hs : s.size ≤ 1099511627776) (hh : h.size ≤ 1000000) :
    Calls Tryd.prog 8 #[.string h, .string s] w (BehindPost h s w) := by
  obtain ⟨X, S1, I⟩ := bh_init w
  go_enter Tryd.func8, Tryd.ntmps8
  go_upto_region 2 with (refine wpl_store S1 rfl rfl rfl rfl rfl ?_)
  clear S1
  by_cases hz : s.size = h.size + 64
  · have g1 : ((s.size : Int) != (h.size : Int) + 64) = false := by simp; omega
    have l1 : (h.size : Int) ≤ (s.size : Int) := by omega
    cases c : pre s h with
    | false =>
      have hI : ¬ Is h s := fun ⟨d, hd, he⟩ => by rw [he, pre_txt h hd] at c; cases c
      have HI := Lib.hid hI
      have c2 : ((s.extract 0 h.size).toList == h.toList) = false := by
        unfold pre at c
        rw [decide_eq_true (by omega)] at c
        simpa using c
      clear c hI
      obtain ⟨Y, L1, S1, L2, F2⟩ := I.give zeros_dig
      clear I
      go_wp2_with (first | refine wpl_load L1 rfl rfl rfl ?_ | refine wpl_store S1 rfl rfl rfl rfl rfl ?_)
      exact bodyPost_ret (results_cell_tmp Tryd.results8 _ rfl rfl L2) rfl ⟨.inr ⟨HI.out, rfl⟩, F2⟩
    | true =>
      have C := Lib.hid c
      have c2 : ((s.extract 0 h.size).toList == h.toList) = true := by
        unfold pre at c
        rw [decide_eq_true (by omega)] at c
        simpa using c
      have hcut : s.extract h.size (h.size + 64) = cut s h := by rw [← hz]; unfold cut; rw [if_pos c]
      have HCUT := Lib.hid hcut
      have hcz : (cut s h).size = 64 := by rw [← hcut]; simp [ByteArray.size_extract]; omega
      clear c hcut
      go_wp2_with fail
      rw [HCUT.out]
      refine (Hx.runhex_any _ _ (by rw [hcz]; decide)).mono ?_
      rintro e X1 ⟨hp, hb⟩
      have I1 := I.below hb
      clear I hb
      rcases hp with ⟨hf, rfl⟩ | ⟨hn, rfl⟩
      · obtain ⟨d, hd, hsd⟩ := form_txt C.out hcz hf
        have hc : cut s h = hexD d := by rw [hsd]; exact cut_txt h hd
        have hu : Hx.unTo (cut s h) ((cut s h).size / 2) = u8s d := by rw [hc]; exact hexD_un hd
        rw [hu]
        have HD := Lib.hid hd
        have HSD := Lib.hid hsd
        have hgb := get_bt ⟨(u8s d).toArray⟩
        have hr : (⟨(u8s d).toArray⟩ : ByteArray).size = 32 := by rw [Hx.size_mk, u8s_len, hd.len]
        have hbt : ∀ k, k < 32 → bt ⟨(u8s d).toArray⟩ k = ((at0 d k : Nat) : Int) := fun k hk => by
          rw [Hx.bt_mk _ k (by rw [u8s_len, hd.len]; exact hk), u8s_get hd]
        have HBT := Lib.hid hbt
        clear hf hd hsd hc hu hbt C HCUT hcz c2 g1 l1
        go_wp2
        go_loopw [9] (fun i wr => ∃ k : Nat, k ≤ 32 ∧ i = .int .i64 k ∧ Bh w wr (part d k)) (fun i _ => 32 - (intOf i).toNat)
        case atStart => exact ⟨0, by decide, rfl, by rw [part_zero]; exact I1⟩
        case round =>
          clear I1
          obtain ⟨k, hk, rfl, I⟩ := hrel
          by_cases hlt : k < 32
          · have l1 : (k : Int) < 32 := by omega
            have l2 : decide ((k : Int) < 32) = true := by simp; omega
            have l3 : (0 : Int) ≤ (k : Int) := by omega
            have c1 := I.d.cell (j := k) (by rw [part_len HD.out hk]; exact hlt)
            have f1 := I.d.frozen k
            have hv := HBT.out k hlt
            have I2 := I.step k (at0 d k)
            rw [part_succ HD.out hlt] at I2
            clear I
            go_wp2
            go_roundw
            case rel => exact ⟨k + 1, by omega, by go_num, I2⟩
            case measure => simp [intOf]; omega
          · obtain rfl : k = 32 := by omega
            have l2 : decide (((32 : Nat) : Int) < 32) = false := by decide
            rw [part_all HD.out] at I
            obtain ⟨Y, L1, S1, L2, F2⟩ := I.give HD.out
            clear I
            go_wp2_with (first | refine wpl_load L1 rfl rfl rfl ?_ | refine wpl_store S1 rfl rfl rfl rfl rfl ?_)
            exact bodyPost_ret (results_cell_tmp Tryd.results8 _ rfl rfl L2) rfl ⟨.inl ⟨d, HD.out, HSD.out, rfl⟩, F2⟩
      · have hI : ¬ Is h s := fun ⟨d, hd, he⟩ => hn (by rw [he, cut_txt h hd]; exact hexD_form d)
        have HI := Lib.hid hI
        clear hn hI
        obtain ⟨Y, L1, S1, L2, F2⟩ := I1.give zeros_dig
        clear I1
        go_wp2_with (first | refine wpl_load L1 rfl rfl rfl ?_ | refine wpl_store S1 rfl rfl rfl rfl rfl ?_)
        exact bodyPost_ret (results_cell_tmp Tryd.results8 _ rfl rfl L2) rfl ⟨.inr ⟨HI.out, rfl⟩, F2⟩
  · have g1 : ((s.size : Int) != (h.size : Int) + 64) = true := by rw [bne_iff_ne]; omega
    have hI : ¬ Is h s := fun ⟨d, hd, he⟩ => hz (by rw [he]; exact txt_size hd)
    have HI := Lib.hid hI
    clear hI
    obtain ⟨Y, L1, S1, L2, F2⟩ := I.give zeros_dig
    clear I
    go_wp2_with (first | refine wpl_load L1 rfl rfl rfl ?_ | refine wpl_store S1 rfl rfl rfl rfl rfl ?_)
    exact bodyPost_ret (results_cell_tmp Tryd.results8 _ rfl rfl L2) rfl ⟨.inr ⟨HI.out, rfl⟩, F2⟩
end Go.Proofs.YtmnkhcefdpcheaaDoor.St
