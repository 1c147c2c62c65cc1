/-
  Contracts of Of, behind, Parse and Named: the digest whose text or name it is, if there is one; nothing that was there is changed.
-/
import Derived.Test.YtmnkhcefdpcheaaDoorStLess
import Derived.Test.YtmnkhcefdpcheaaDoorHxUnhex
import Derived.Test.YtmnkhcefdpcheaaDoorShAwake
namespace Go.Proofs.YtmnkhcefdpcheaaDoor.St
open Go.RowKit Go.PlainAid Go.Proofs.YtmnkhcefdpcheaaDoor.Sh
set_option linter.unusedVariables false

theorem zeros_vals : (vals .u8 zeros).toArray = #[.int .u8 0, .int .u8 0, .int .u8 0, .int .u8 0, .int .u8 0, .int .u8 0, .int .u8 0, .int .u8 0, .int .u8 0, .int .u8 0, .int .u8 0, .int .u8 0, .int .u8 0, .int .u8 0, .int .u8 0, .int .u8 0, .int .u8 0, .int .u8 0, .int .u8 0, .int .u8 0, .int .u8 0, .int .u8 0, .int .u8 0, .int .u8 0, .int .u8 0, .int .u8 0, .int .u8 0, .int .u8 0, .int .u8 0, .int .u8 0, .int .u8 0, .int .u8 0] := rfl
/-- bytes of a text, copied over a digest -/
theorem copy_dig {w : World} {B : Nat} {T : Nat} {l : List Nat} (h : Blk w B .u8 T l) (hl : l.length = 32) {dT sT e ty : TypeId} (hu : Tryd.prog.underlying dT = some (.slice e)) (hz : (Tryd.prog.info? e).map (·.size) = some 1) {d : List Nat} (hd : Dig d) :
    (Builtin.copy_ #[dT, sT] ty #[.slice (some ⟨B, 0, none⟩) 32 32, .string ⟨(u8s d).toArray⟩]).run Tryd.prog w = .ok (goInt 32) (w.setRow B (vals .u8 d).toArray) := by
  have hst := run_storeCells_at (P := Tryd.prog) B 0 T (vals .u8 d) 0 (vals .u8 l).toArray w h.heap (by simp [vals_len, hl, hd.len]) (vals_one _ _)
  have hs := size_of hz w
  have hsz : (⟨(u8s d).toArray⟩ : ByteArray).size = 32 := by rw [Hx.size_mk, u8s_len, hd.len]
  have hc : List.take 32 (List.map (fun b => Value.int .u8 (b.toNat : Int)) (u8s d)) = vals .u8 d := by
    rw [List.take_of_length_le (by simp [u8s_len, hd.len])]
    conv => rhs; rw [← u8s_back hd]
    simp [vals]
  have e2 : ((vals .u8 l).toArray.toList.take 0 ++ vals .u8 d ++ (vals .u8 l).toArray.toList.drop (0 + (vals .u8 d).length)).toArray = (vals .u8 d).toArray := by
    simp [vals_len, hd.len, hl]
  simp only [Nat.add_zero] at hst
  rw [e2] at hst
  simp [Builtin.copy_, run_underlying hu, Builtin.lenOf, Builtin.firstCells, hs, hc, hst, hsz]
theorem results_cell_tmp {P : Program} {fn : Func} {p q : Tmp} {ty : TypeId} (h : fn.results = #[.cell p ty, .tmp q]) (tmps : Array Value) {w : World} {g : Nat} {cs : Array Value} {v : Value}
    (hp : tmps.getD p undef = .pointer (some ⟨g, 0, none⟩)) (hq : tmps.getD q undef = v) (hl : Loads P w ty g 0 cs) :
    (results fn tmps).run P w = .ok (.tuple #[.agg cs, v]) w := by
  have hp' : tmps[p]?.getD undef = .pointer (some ⟨g, 0, none⟩) := by simpa using hp
  have hq' : tmps[q]?.getD undef = v := by simpa using hq
  have hl' : (loadVar ty ⟨g, 0, none⟩).run P w = .ok (.agg cs) w := hl
  simp [results, h, hp', hq', asAddr, hl']
def BehindPost (h s : ByteArray) (w : World) (e : Ending) (w' : World) : Prop :=
  ((∃ d, Dig d ∧ s = txt h d ∧ e = .returned (.tuple #[.agg (vals .u8 d).toArray, .bool true])) ∨ (¬ Is h s ∧ e = .returned (.tuple #[.agg (vals .u8 zeros).toArray, .bool false]))) ∧ Below w.heap.size w w'
/-- behind a call that keeps what was there -/
theorem Blk.dig_loads {w : World} {B T : Nat} {d : List Nat} (h : Blk w B .u8 T d) (hd : Dig d) : Loads Tryd.prog w 23 B 0 (vals .u8 d).toArray :=
  h.loads (by kernel_rfl) (by rw [hd.len]; kernel_rfl)
theorem Blk.dig_stores {w : World} {B T : Nat} {d d' : List Nat} (h : Blk w B .u8 T d) (hd : Dig d) (hd' : Dig d') : Stores Tryd.prog w 23 B 0 (vals .u8 d').toArray (w.setRow B (vals .u8 d').toArray) :=
  h.stores (by rw [hd'.len]; kernel_rfl) (by rw [hd.len, hd'.len])

set_option maxRecDepth 100000 in
theorem behind_any (h s : ByteArray) (w : World) (hs : s.size ≤ 1099511627776) (hh : h.size ≤ 1099511627776) :
    Calls Tryd.prog 18 #[.string h, .string s] w (BehindPost h s w) := by
  have R := Blk.new w .u8 23 zeros
  have F : Below w.heap.size w (w.alloc (.cells (vals .u8 zeros).toArray 23)) := (Below.refl _ _).alloc (Nat.le_refl _) _
  rw [zeros_vals] at R F
  by_cases hI : Is h s
  · obtain ⟨d, hd, rfl⟩ := hI
    have HD := Lib.hid hd
    have H1 := Lib.hid (pre_txt h hd)
    have H2 := Lib.hid (cut_txt h hd)
    have H3 := Lib.hid (hexD_un hd)
    have hz := hexD_size hd
    have hz2 := txt_size (h := h) hd
    clear hd
    go_enter Tryd.func18, Tryd.ntmps18
    go_upto_region 1 with (fail)
    generalize w.alloc (.cells #[.int .u8 0, .int .u8 0, .int .u8 0, .int .u8 0, .int .u8 0, .int .u8 0, .int .u8 0, .int .u8 0, .int .u8 0, .int .u8 0, .int .u8 0, .int .u8 0, .int .u8 0, .int .u8 0, .int .u8 0, .int .u8 0, .int .u8 0, .int .u8 0, .int .u8 0, .int .u8 0, .int .u8 0, .int .u8 0, .int .u8 0, .int .u8 0, .int .u8 0, .int .u8 0, .int .u8 0, .int .u8 0, .int .u8 0, .int .u8 0, .int .u8 0, .int .u8 0] 23) = X at R F ⊢
    go_wp2_with fail
    refine (cut_any _ _ _ hs hh).mono ?_
    rintro e w' ⟨rfl, rfl⟩
    rw [H1.out, H2.out]
    go_wp2_with fail
    refine (Hx.unhex_yes _ _ (by rw [hz]; decide) (hexD_form d)).mono ?_
    rintro e X1 ⟨rfl, hb⟩
    rw [H3.out]
    have R1 := R.below hb R.lt
    have F1 := F.trans (hb.mono F.size)
    clear R F hb
    have N := Blk.new X1 .u8 23 zeros
    have R2 := R1.alloc (.cells (vals .u8 zeros).toArray 23)
    have F2 := F1.alloc F1.size (.cells (vals .u8 zeros).toArray 23)
    have hne : w.heap.size ≠ X1.heap.size := Nat.ne_of_lt R1.lt
    have hle := F1.size
    clear R1 F1
    rw [zeros_vals] at N R2 F2
    go_upto_region 8 with (fail)
    generalize X1.alloc (.cells #[.int .u8 0, .int .u8 0, .int .u8 0, .int .u8 0, .int .u8 0, .int .u8 0, .int .u8 0, .int .u8 0, .int .u8 0, .int .u8 0, .int .u8 0, .int .u8 0, .int .u8 0, .int .u8 0, .int .u8 0, .int .u8 0, .int .u8 0, .int .u8 0, .int .u8 0, .int .u8 0, .int .u8 0, .int .u8 0, .int .u8 0, .int .u8 0, .int .u8 0, .int .u8 0, .int .u8 0, .int .u8 0, .int .u8 0, .int .u8 0, .int .u8 0, .int .u8 0] 23) = X2 at N R2 F2 ⊢
    generalize X1.heap.size = B at N hne hle ⊢
    have hcp := fun ty => copy_dig (dT := 44) (sT := 9) (ty := ty) N zeros_dig.len Tryd.underlying44 (by kernel_rfl) HD.out
    have N3 := N.row d
    have R3 : Blk (X2.setRow B (vals .u8 d).toArray) w.heap.size .u8 23 zeros := R2.rowOther hne
    have F3 : Below w.heap.size w (X2.setRow B (vals .u8 d).toArray) := below_row F2 hle
    clear N R2 F2
    generalize X2.setRow B (vals .u8 d).toArray = X3 at hcp N3 R3 F3
    have L1 := Blk.dig_loads N3 HD.out
    have S1 := Blk.dig_stores R3 zeros_dig HD.out
    have R4 := R3.row d
    have F4 : Below w.heap.size w (X3.setRow w.heap.size (vals .u8 d).toArray) := below_row F3 (Nat.le_refl _)
    clear N3 R3 F3
    generalize X3.setRow w.heap.size (vals .u8 d).toArray = X4 at S1 R4 F4
    go_wp2_with (first | refine wpl_copy hcp rfl rfl rfl rfl ?_ | refine wpl_load L1 rfl rfl rfl ?_ | refine wpl_store S1 rfl rfl rfl rfl rfl ?_)
    exact bodyPost_ret (results_cell_tmp Tryd.results18 _ rfl rfl (Blk.dig_loads R4 HD.out)) rfl ⟨.inl ⟨d, HD.out, rfl, rfl⟩, F4⟩
  · have HI := Lib.hid hI
    clear hI
    have hcz : (cut s h).size ≤ 1099511627776 := by
      unfold cut; split
      · simp [ByteArray.size_extract]; omega
      · exact hs
    have HCZ := Lib.hid hcz
    clear hcz
    go_enter Tryd.func18, Tryd.ntmps18
    go_upto_region 1 with (fail)
    generalize w.alloc (.cells #[.int .u8 0, .int .u8 0, .int .u8 0, .int .u8 0, .int .u8 0, .int .u8 0, .int .u8 0, .int .u8 0, .int .u8 0, .int .u8 0, .int .u8 0, .int .u8 0, .int .u8 0, .int .u8 0, .int .u8 0, .int .u8 0, .int .u8 0, .int .u8 0, .int .u8 0, .int .u8 0, .int .u8 0, .int .u8 0, .int .u8 0, .int .u8 0, .int .u8 0, .int .u8 0, .int .u8 0, .int .u8 0, .int .u8 0, .int .u8 0, .int .u8 0, .int .u8 0] 23) = X at R F ⊢
    go_wp2_with fail
    refine (cut_any _ _ _ hs hh).mono ?_
    rintro e w' ⟨rfl, rfl⟩
    have HL := Lib.hid (Eq.refl (cut s h))
    cases c : pre s h with
    | false =>
      have C := Lib.hid c
      clear c
      have S0 := Blk.dig_stores R zeros_dig zeros_dig
      have R0 := R.row zeros
      have F0 : Below w.heap.size w (X.setRow w.heap.size (vals .u8 zeros).toArray) := below_row F (Nat.le_refl _)
      generalize X.setRow w.heap.size (vals .u8 zeros).toArray = Y at S0 R0 F0
      rw [zeros_vals] at S0
      go_wp2_with (refine wpl_store S0 rfl rfl rfl rfl rfl ?_)
      exact bodyPost_ret (results_cell_tmp Tryd.results18 _ rfl rfl (Blk.dig_loads R0 zeros_dig)) rfl ⟨.inr ⟨HI.out, rfl⟩, F0⟩
    | true =>
      have C := Lib.hid c
      clear c
      by_cases hz : (cut s h).size = 64
      · have hn : ¬ Hx.UnForm (cut s h) := fun hf => HI.out (form_txt C.out hz hf)
        have g : (((cut s h).size : Int) != 64) = false := by rw [hz]; rfl
        go_wp2_with fail
        refine (Hx.unhex_no _ _ HCZ.out hn).mono ?_
        rintro e X1 ⟨rfl, hb⟩
        have R1 := R.below hb R.lt
        have F1 := F.trans (hb.mono F.size)
        clear R F hb g hz
        have S0 := Blk.dig_stores R1 zeros_dig zeros_dig
        have R0 := R1.row zeros
        have F0 : Below w.heap.size w (X1.setRow w.heap.size (vals .u8 zeros).toArray) := below_row F1 (Nat.le_refl _)
        generalize X1.setRow w.heap.size (vals .u8 zeros).toArray = Y at S0 R0 F0
        rw [zeros_vals] at S0
        go_wp2_with (refine wpl_store S0 rfl rfl rfl rfl rfl ?_)
        exact bodyPost_ret (results_cell_tmp Tryd.results18 _ rfl rfl (Blk.dig_loads R0 zeros_dig)) rfl ⟨.inr ⟨HI.out, rfl⟩, F0⟩
      · have g : (((cut s h).size : Int) != 64) = true := by rw [bne_iff_ne]; omega
        have S0 := Blk.dig_stores R zeros_dig zeros_dig
        have R0 := R.row zeros
        have F0 : Below w.heap.size w (X.setRow w.heap.size (vals .u8 zeros).toArray) := below_row F (Nat.le_refl _)
        generalize X.setRow w.heap.size (vals .u8 zeros).toArray = Y at S0 R0 F0
        rw [zeros_vals] at S0
        go_wp2_with (refine wpl_store S0 rfl rfl rfl rfl rfl ?_)
        exact bodyPost_ret (results_cell_tmp Tryd.results18 _ rfl rfl (Blk.dig_loads R0 zeros_dig)) rfl ⟨.inr ⟨HI.out, rfl⟩, F0⟩

/-- what Parse and Named answer: the digest, and whether there is one by 'yes' or 'no' -/
def ReadPost (h s : ByteArray) (yes no : Value) (w : World) (e : Ending) (w' : World) : Prop :=
  ((∃ d, Dig d ∧ s = txt h d ∧ e = .returned (.tuple #[.agg (vals .u8 d).toArray, yes])) ∨ (¬ Is h s ∧ e = .returned (.tuple #[.agg (vals .u8 zeros).toArray, no]))) ∧ Below w.heap.size w w'

set_option maxRecDepth 100000 in
theorem named_any (s : ByteArray) (w : World) (hs : s.size ≤ 1099511627776) :
    Calls Tryd.prog 9 #[.string s] w (ReadPost ⟨#[98, 108, 111, 98, 45]⟩ s (.bool true) (.bool false) w) := by
  have R := Blk.new w .u8 23 zeros
  have F : Below w.heap.size w (w.alloc (.cells (vals .u8 zeros).toArray 23)) := (Below.refl _ _).alloc (Nat.le_refl _) _
  rw [zeros_vals] at R F
  go_enter Tryd.func9, Tryd.ntmps9
  go_upto_region 1 with (fail)
  generalize w.alloc (.cells #[.int .u8 0, .int .u8 0, .int .u8 0, .int .u8 0, .int .u8 0, .int .u8 0, .int .u8 0, .int .u8 0, .int .u8 0, .int .u8 0, .int .u8 0, .int .u8 0, .int .u8 0, .int .u8 0, .int .u8 0, .int .u8 0, .int .u8 0, .int .u8 0, .int .u8 0, .int .u8 0, .int .u8 0, .int .u8 0, .int .u8 0, .int .u8 0, .int .u8 0, .int .u8 0, .int .u8 0, .int .u8 0, .int .u8 0, .int .u8 0, .int .u8 0, .int .u8 0] 23) = X at R F ⊢
  go_wp2_with fail
  refine (behind_any _ _ _ hs (by decide)).mono ?_
  rintro e X1 ⟨hp, hb⟩
  have R1 := R.below hb R.lt
  have F1 := F.trans (hb.mono F.size)
  clear R F hb
  rcases hp with ⟨d, hd, he, rfl⟩ | ⟨hn, rfl⟩
  · have HE := Lib.hid he
    have S0 := Blk.dig_stores R1 zeros_dig hd
    have R0 := R1.row d
    have F0 : Below w.heap.size w (X1.setRow w.heap.size (vals .u8 d).toArray) := below_row F1 (Nat.le_refl _)
    have HD := Lib.hid hd
    clear he hd R1 F1
    generalize X1.setRow w.heap.size (vals .u8 d).toArray = Y at S0 R0 F0
    go_wp2_with (refine wpl_store S0 rfl rfl rfl rfl rfl ?_)
    exact bodyPost_ret (results_cell_tmp Tryd.results9 _ rfl rfl (Blk.dig_loads R0 HD.out)) rfl ⟨.inl ⟨d, HD.out, HE.out, rfl⟩, F0⟩
  · have HE := Lib.hid hn
    have S0 := Blk.dig_stores R1 zeros_dig zeros_dig
    have R0 := R1.row zeros
    have F0 : Below w.heap.size w (X1.setRow w.heap.size (vals .u8 zeros).toArray) := below_row F1 (Nat.le_refl _)
    clear hn R1 F1
    generalize X1.setRow w.heap.size (vals .u8 zeros).toArray = Y at S0 R0 F0
    go_wp2_with (refine wpl_store S0 rfl rfl rfl rfl rfl ?_)
    exact bodyPost_ret (results_cell_tmp Tryd.results9 _ rfl rfl (Blk.dig_loads R0 zeros_dig)) rfl ⟨.inr ⟨HE.out, rfl⟩, F0⟩

set_option maxRecDepth 100000 in
theorem parse_any (s : ByteArray) (w : World) (hs : s.size ≤ 1099511627776) :
    Calls Tryd.prog 7 #[.string s] w (ReadPost ⟨#[115, 104, 97, 50, 53, 54, 58]⟩ s (.int .i64 0) (.int .i64 3) w) := by
  have R := Blk.new w .u8 23 zeros
  have F : Below w.heap.size w (w.alloc (.cells (vals .u8 zeros).toArray 23)) := (Below.refl _ _).alloc (Nat.le_refl _) _
  rw [zeros_vals] at R F
  go_enter Tryd.func7, Tryd.ntmps7
  go_upto_region 1 with (fail)
  generalize w.alloc (.cells #[.int .u8 0, .int .u8 0, .int .u8 0, .int .u8 0, .int .u8 0, .int .u8 0, .int .u8 0, .int .u8 0, .int .u8 0, .int .u8 0, .int .u8 0, .int .u8 0, .int .u8 0, .int .u8 0, .int .u8 0, .int .u8 0, .int .u8 0, .int .u8 0, .int .u8 0, .int .u8 0, .int .u8 0, .int .u8 0, .int .u8 0, .int .u8 0, .int .u8 0, .int .u8 0, .int .u8 0, .int .u8 0, .int .u8 0, .int .u8 0, .int .u8 0, .int .u8 0] 23) = X at R F ⊢
  go_wp2_with fail
  refine (behind_any _ _ _ hs (by decide)).mono ?_
  rintro e X1 ⟨hp, hb⟩
  have R1 := R.below hb R.lt
  have F1 := F.trans (hb.mono F.size)
  clear R F hb
  have KD := fun d hd => keep_dig X1 d hd
  rcases hp with ⟨d, hd, he, rfl⟩ | ⟨hn, rfl⟩
  · have HE := Lib.hid he
    obtain ⟨X2, S1, N, F2, Z2⟩ := KD d hd.len
    have R2 := R1.below F2 R1.lt
    have F3 := F1.trans (F2.mono F1.size)
    have L1 := Blk.dig_loads N hd
    have S0 := Blk.dig_stores R2 zeros_dig hd
    have R0 := R2.row d
    have F0 : Below w.heap.size w (X2.setRow w.heap.size (vals .u8 d).toArray) := below_row F3 (Nat.le_refl _)
    have HD := Lib.hid hd
    clear he hd R1 F1 KD R2 F3 N F2 Z2
    generalize X2.setRow w.heap.size (vals .u8 d).toArray = Y at S0 R0 F0
    go_wp2_with (first | refine wpl_store S1 rfl rfl rfl rfl rfl ?_ | refine wpl_store S0 rfl rfl rfl rfl rfl ?_ | refine wpl_load L1 rfl rfl rfl ?_)
    exact bodyPost_ret (results_cell_tmp Tryd.results7 _ rfl rfl (Blk.dig_loads R0 HD.out)) rfl ⟨.inl ⟨d, HD.out, HE.out, rfl⟩, F0⟩
  · have HE := Lib.hid hn
    obtain ⟨X2, S1, N, F2, Z2⟩ := KD zeros zeros_dig.len
    have R2 := R1.below F2 R1.lt
    have F3 := F1.trans (F2.mono F1.size)
    have S0 := Blk.dig_stores R2 zeros_dig zeros_dig
    have R0 := R2.row zeros
    have F0 : Below w.heap.size w (X2.setRow w.heap.size (vals .u8 zeros).toArray) := below_row F3 (Nat.le_refl _)
    clear hn R1 F1 KD R2 F3 N F2 Z2
    generalize X2.setRow w.heap.size (vals .u8 zeros).toArray = Y at S0 R0 F0
    have S2 := S0
    rw [zeros_vals] at S2
    go_wp2_with (first | refine wpl_store S1 rfl rfl rfl rfl rfl ?_ | refine wpl_store S2 rfl rfl rfl rfl rfl ?_)
    exact bodyPost_ret (results_cell_tmp Tryd.results7 _ rfl rfl (Blk.dig_loads R0 zeros_dig)) rfl ⟨.inr ⟨HE.out, rfl⟩, F0⟩

set_option maxRecDepth 100000 in
theorem of_one (s : ByteArray) (w : World) (ht : Tabs w) (hs : s.size ≤ 1099511627776) :
    Calls Tryd.prog 16 #[.string s] w fun e w' => e = .returned (.agg (vals .u8 (shaD (bl s))).toArray) ∧ Below w.heap.size w w' := by
  have HT := Lib.hid ht
  have t1 := ht.keys.lt
  clear ht
  have R := Blk.new w .u8 23 zeros
  have F : Below w.heap.size w (w.alloc (.cells (vals .u8 zeros).toArray 23)) := (Below.refl _ _).alloc (Nat.le_refl _) _
  rw [zeros_vals] at R F
  go_enter Tryd.func16, Tryd.ntmps16
  go_upto_region 1 with (fail)
  generalize w.alloc (.cells #[.int .u8 0, .int .u8 0, .int .u8 0, .int .u8 0, .int .u8 0, .int .u8 0, .int .u8 0, .int .u8 0, .int .u8 0, .int .u8 0, .int .u8 0, .int .u8 0, .int .u8 0, .int .u8 0, .int .u8 0, .int .u8 0, .int .u8 0, .int .u8 0, .int .u8 0, .int .u8 0, .int .u8 0, .int .u8 0, .int .u8 0, .int .u8 0, .int .u8 0, .int .u8 0, .int .u8 0, .int .u8 0, .int .u8 0, .int .u8 0, .int .u8 0, .int .u8 0] 23) = X at R F ⊢
  have T2 := HT.out.below F t1
  go_wp2_with fail
  refine (of_any (one_strs _ _) (T2.alloc _) (by rw [allB_one, bl_len]; exact hs) (by simp)).mono ?_
  rintro e X1 ⟨rfl, hb⟩
  rw [allB_one]
  have hb2 : Below X.heap.size X X1 := ((Below.refl _ _).alloc (Nat.le_refl _) _).trans (hb.mono (by simp))
  have R1 := R.below hb2 R.lt
  have F1 := F.trans (hb2.mono F.size)
  clear R F hb hb2 T2
  have hd : Dig (shaD (bl s)) := ⟨shaD_len _, shaD_lt _⟩
  have HD := Lib.hid hd
  have S0 := Blk.dig_stores R1 zeros_dig hd
  have R0 := R1.row (shaD (bl s))
  have F0 : Below w.heap.size w (X1.setRow w.heap.size (vals .u8 (shaD (bl s))).toArray) := below_row F1 (Nat.le_refl _)
  clear hd R1 F1
  generalize X1.setRow w.heap.size (vals .u8 (shaD (bl s))).toArray = Y at S0 R0 F0
  go_wp2_with (refine wpl_store S0 rfl rfl rfl rfl rfl ?_)
  exact bodyPost_ret (results_cell_row Tryd.results16 _ _ w.heap.size 23 (vals .u8 (shaD (bl s))).toArray (0, 0) _ rfl R0.heap Tryd.underlying23 rfl (by simp only [List.size_toArray, vals_len, shaD_len]; kernel_rfl)) rfl ⟨rfl, F0⟩

theorem read_yes {h : ByteArray} {d : List Nat} {yes no : Value} {w w' : World} {e : Ending} (hd : Dig d) (hp : ReadPost h (txt h d) yes no w e w') : e = .returned (.tuple #[.agg (vals .u8 d).toArray, yes]) ∧ Below w.heap.size w w' := by
  obtain ⟨hp | hp, hb⟩ := hp
  · obtain ⟨d', hd', he, rfl⟩ := hp
    rw [txt_inj hd hd' he]
    exact ⟨rfl, hb⟩
  · exact absurd ⟨d, hd, rfl⟩ hp.1
theorem read_no {h s : ByteArray} {yes no : Value} {w w' : World} {e : Ending} (hn : ¬ Is h s) (hp : ReadPost h s yes no w e w') : e = .returned (.tuple #[.agg (vals .u8 zeros).toArray, no]) ∧ Below w.heap.size w w' := by
  obtain ⟨hp | hp, hb⟩ := hp
  · obtain ⟨d', hd', he, rfl⟩ := hp
    exact absurd ⟨d', hd', he⟩ hn
  · exact ⟨hp.2, hb⟩
end Go.Proofs.YtmnkhcefdpcheaaDoor.St
