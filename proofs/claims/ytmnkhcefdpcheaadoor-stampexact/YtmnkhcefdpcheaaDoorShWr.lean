/-
  Contract of Write: all bytes of a text more; nothing else that was there is changed.
-/
import Derived.Test.YtmnkhcefdpcheaaDoorShHash
namespace Go.Proofs.YtmnkhcefdpcheaaDoor.Sh
open Go.RowKit Go.PlainAid
set_option linter.unusedVariables false

def strLen : Value → Nat
  | .string s => s.size
  | _ => 0
def WritePost (B : Nat) (l : List Nat) (w : World) (e : Ending) (w' : World) : Prop := e = .returned (.tuple #[]) ∧ (∃ blk, ShaIs w' B l blk) ∧ But B w w'
/-- what holds at each round of Write: p is written, r is left -/
def Left (B : Nat) (l b : List Nat) (w wr : World) (r : ByteArray) : Prop := ∃ p blk, p ++ bl r = b ∧ ShaIs wr B (l ++ p) blk ∧ But B w wr

theorem bl_drop (r : ByteArray) (c : Nat) : bl (r.extract c r.size) = (bl r).drop c := by
  unfold bl
  rw [ByteArray.data_extract, Array.toList_extract, List.map_take, List.map_drop]
  rw [List.take_of_length_le (by simp)]
theorem left_next {B : Nat} {l p q b blk : List Nat} {w w' : World} {r : ByteArray} {c : Nat} (hq : q = l ++ p) (hp : p ++ bl r = b) (hI : ShaIs w' B (q ++ (bl r).take c) blk) (hb : But B w w') : Left B l b w w' (r.extract c r.size) := by
  refine ⟨p ++ (bl r).take c, blk, ?_, ?_, hb⟩
  · rw [bl_drop, List.append_assoc, List.take_append_drop]; exact hp
  · rw [← List.append_assoc, ← hq]; exact hI
theorem ext_size (r : ByteArray) {c : Nat} (h : c ≤ r.size) : (r.extract c r.size).size = r.size - c := by simp [ByteArray.size_extract]
theorem take_lt (r : ByteArray) (c : Nat) : ∀ y ∈ (bl r).take c, y < 256 := fun y hy => bl_lt r y (List.mem_of_mem_take hy)

theorem write_nil (s : ByteArray) (w : World) : Calls Tryd.prog 30 #[.pointer none, .string s] w fun e w' => e = .returned (.tuple #[]) ∧ w = w' := by
  go_enter Tryd.func30, Tryd.ntmps30
  go_wp2
  exact bodyPost_ret (v := .tuple #[]) (by simp [results, Tryd.results30, go_sem]) rfl ⟨rfl, rfl⟩

set_option maxRecDepth 100000 in
set_option maxHeartbeats 4000000 in
theorem write_any {w : World} {B : Nat} {l blk0 : List Nat} (s : ByteArray) (h : ShaIs w B l blk0) (hk : Tab w 1 keys) (hB : B ≠ 1) (hn : l.length + s.size ≤ 1099511627776) :
    Calls Tryd.prog 30 #[.pointer (some ⟨B, 0, none⟩), .string s] w (WritePost B (l ++ bl s) w) := by
  have H := Lib.hid h
  have HK := Lib.hid hk
  have HB := Lib.hid hB
  clear h hk hB
  go_enter Tryd.func30, Tryd.ntmps30
  go_wp2
  go_loopw [1] (fun v wr => ∃ r : ByteArray, v = .string r ∧ Left B l (bl s) w wr r) (fun v _ => strLen v)
  case atStart => exact ⟨s, rfl, [], blk0, rfl, by rw [List.append_nil]; exact H.out, But.refl _ _⟩
  case round =>
    obtain ⟨r, rfl, HLe⟩ := hrel
    obtain ⟨p, blk, hp, hI, hBut⟩ := HLe
    have HP := Lib.hid hp
    clear hp
    by_cases hr : 0 < r.size
    · obtain ⟨q, hq⟩ : ∃ q, q = l ++ p := ⟨_, rfl⟩
      have HQ := Lib.hid hq
      have hql : q.length + r.size ≤ 1099511627776 := by
        have e := congrArg List.length HP.out
        simp only [List.length_append, bl_len] at e
        rw [hq, List.length_append]; omega
      rw [← hq] at hI
      clear hq
      obtain ⟨u, hu⟩ : ∃ u, u = q.length % 64 := ⟨_, rfl⟩
      have HU := Lib.hid hu
      have hul : u < 64 := by omega
      have hun : (q.length : Int) % 64 = (u : Int) := by omega
      have hut : (q.length : Int).tmod 64 = (u : Int) := by rw [Int.tmod_eq_emod_of_nonneg (by omega)]; exact hun
      clear hu
      have c72 := hI.at_.size
      have hsl := fun w => slice_lt (P := Tryd.prog) Tryd.underlying58 (by kernel_rfl) B 8 u hul w
      go_wp2
      go_still_tail 10, (by kernel_rfl)
      change wpList _ _ _ _ _ wr.drew
      have hI2 := hI.drew
      have hBut2 := hBut.drew
      clear c72 hsl hI hBut
      generalize wr.drew = w2 at hI2 hBut2 ⊢
      have hcp := fun ty => hI2.at_.copyStr (P := Tryd.prog) (dT := 44) (sT := 9) (ty := ty) Tryd.underlying44 (by kernel_rfl) u hul r
      have hcl : ((bl r).take (min r.size (64 - u))).length = min r.size (64 - u) := by simp [bl_len]
      have HCL := Lib.hid hcl
      clear hcl
      have hc1 : min r.size (64 - u) ≤ r.size := Nat.min_le_left _ _
      have hc2 : min r.size (64 - u) + u ≤ 64 := by omega
      have hc3 : 0 < min r.size (64 - u) := by omega
      have A2 := hI2.at_.row q.length hI2.at_.ls (put_len (x := (bl r).take (min r.size (64 - u))) (u := u) hI2.at_.lb (by rw [HCL.out]; omega))
      have B2 : But B w (w2.setRow B (shaV (hs q (q.length / 64)) (put blk ((bl r).take (min r.size (64 - u))) u) q.length).toArray) := hBut2.row
      generalize hY : w2.setRow B _ = w3 at hcp A2 B2
      clear hY
      generalize min r.size (64 - u) = c at *
      go_upto_region 3 with (refine wpl_copy hcp rfl rfl rfl rfl ?_)
      have i1 : (c : Int) ≤ (r.size : Int) := by omega
      have c72 := A2.size
      have f72 := A2.frozen 72
      have sm : IntKind.u64.wrap ((q.length : Int) + (c : Int)) = (q.length : Int) + (c : Int) := IntWalk.u64_in _ (by omega)
      have A3 := A2.setSize (q.length + c)
      rw [show ((q.length + c : Nat) : Int) = (q.length : Int) + (c : Int) by omega] at A3
      have B3 : But B w (w3.setCell ⟨B, 72, none⟩ (.int .u64 ((q.length : Int) + (c : Int)))) := B2.cell
      go_upto_region 5 with (fail)
      clear A2 B2 c72 f72 hcp
      generalize w3.setCell ⟨B, 72, none⟩ (.int .u64 ((q.length : Int) + (c : Int))) = w4 at A3 B3 ⊢
      have c72 := A3.size
      have K3 : Tab w4 1 keys := HK.out.same (B3.block 1 HK.out.lt (Ne.symm HB.out))
      by_cases hfull : u + c = 64
      · have z1 : ((q.length : Int) + (c : Int)) % 64 = 0 := by have := HU.out; omega
        have z2 : ((q.length : Int) + (c : Int)).tmod 64 = 0 := by rw [Int.tmod_eq_emod_of_nonneg (by omega)]; exact z1
        go_wp2
        refine wp_region_any (by kernel_rfl) ?_
        change wpAny _ _ _ _ _ _ _ w4.drew
        have A5 := A3.drew
        have B5 := B3.drew
        have K5 := K3.drew
        clear A3 B3 K3 c72 z1 z2
        generalize w4.drew = w5 at A5 B5 K5 ⊢
        have L1 := A5.loadState (P := Tryd.prog) (ty := 53) (by kernel_rfl) (by kernel_rfl)
        have L2 := A5.loadBlock (P := Tryd.prog) (ty := 58) (by kernel_rfl) (by kernel_rfl)
        refine wpAny_taken 0 (.pointer (some ⟨B, 0, none⟩)) rfl (by kernel_rfl) (by kernel_rfl) (by kernel_rfl) (fun _ _ _ h => h) (Or.inl ⟨by rfl, fun w => by go_simp⟩) (fun K hK => ?_)
        go_simp
        refine hK _ _ ?_
        clear hK K
        refine wpAny_taken 1 (.pointer (some ⟨B, 0, none⟩)) rfl (by kernel_rfl) (by kernel_rfl) (by kernel_rfl) (fun _ _ _ h => h) (Or.inl ⟨by rfl, fun w => by go_simp⟩) (fun K hK => ?_)
        go_simp
        refine hK _ _ ?_
        clear hK K
        refine wpAny_taken 2 (.pointer (some ⟨B, 0, none⟩)) rfl (by kernel_rfl) (by kernel_rfl) (by kernel_rfl) (fun _ _ _ h => h) (Or.inl ⟨by rfl, fun w => by go_simp⟩) (fun K hK => ?_)
        go_simp
        refine hK _ _ ?_
        clear hK K
        refine wpAny_taken 3 (.pointer (some ⟨B, 0, none⟩)) rfl (by kernel_rfl) (by kernel_rfl) (by kernel_rfl) (fun _ _ _ h => h) (Or.inl ⟨by rfl, fun w => by go_simp⟩) (fun K hK => ?_)
        go_simp
        refine hK _ _ ?_
        clear hK K
        refine wpAny_taken 5 (.pointer (some ⟨B, 0, none⟩)) rfl (by kernel_rfl) (by kernel_rfl) (by kernel_rfl) (fun _ _ _ h => h) (Or.inl ⟨by rfl, fun w => by go_simp⟩) (fun K hK => ?_)
        go_simp
        refine hK _ _ ?_
        clear hK K
        refine wpAny_taken 6 (.pointer (some ⟨B, 0, none⟩)) rfl (by kernel_rfl) (by kernel_rfl) (by kernel_rfl) (fun _ _ _ h => h) (Or.inl ⟨by rfl, fun w => by go_simp⟩) (fun K hK => ?_)
        go_simp
        refine hK _ _ ?_
        clear hK K
        refine wpAny_taken 7 (.pointer (some ⟨B, 8, none⟩)) rfl (by kernel_rfl) (by kernel_rfl) (by kernel_rfl) (fun _ _ _ h => h) (Or.inl ⟨by rfl, fun w => by go_simp⟩) (fun K hK => ?_)
        go_simp
        refine hK _ _ ?_
        clear hK K
        refine wpAny_two (i := 4) (j := 8) (by kernel_rfl) (fun K hK => wpOp_load L1 rfl rfl rfl rfl ?_) (fun K hK => wpOp_load L2 rfl rfl rfl rfl ?_)
        · go_simp
          refine hK _ _ ?_
          clear hK K
          refine wpAny_one (i := 8) (by kernel_rfl) (fun K hK => wpOp_load L2 rfl rfl rfl rfl ?_)
          go_simp
          refine hK _ _ ?_
          clear hK K
          refine wpAny_one (i := 9) (by kernel_rfl) (fun K hK => wpOp_of rfl rfl ?_)
          go_simp
          refine (mixed_any _ _ _ (hs_len _ _) (hs_lt _ _) A5.lb (put_lt hI2.lt (take_lt r c)) K5).mono ?_
          rintro e w6 ⟨rfl, hb⟩
          have A6 := A5.same (hb.block B A5.lt)
          have B6 := B5.trans (But.of_below hb)
          clear L1 L2 A5 B5 K5 hb
          have S1 := A6.storeState (P := Tryd.prog) (ty := 53) (mix_len (hs q (q.length / 64)) (put blk ((bl r).take c) u)) (by kernel_rfl)
          have A7 := A6.row (q.length + c) (mix_len (hs q (q.length / 64)) (put blk ((bl r).take c) u)) A6.lb
          have B7 : But B w (w6.setRow B (shaV (mixL (hs q (q.length / 64)) (put blk ((bl r).take c) u)) (put blk ((bl r).take c) u) (q.length + c)).toArray) := B6.row
          generalize hY : w6.setRow B _ = w7 at S1 A7 B7
          clear hY A6 B6
          refine hK _ _ ?_
          clear hK K
          refine wpAny_of_seq (List.drop 10 (Array.toList _)) 10 _ _ _ (fun j => by rw [List.getElem?_drop, Array.getElem?_toList]) (by kernel_rfl) ?_
          simp only [List.drop_succ_cons, List.drop_zero]
          go_wp2_with (refine wpl_store S1 rfl rfl rfl rfl rfl ?_)
          have C1 : u + ((bl r).take c).length = 64 := by rw [HCL.out]; omega
          rw [HU.out] at C1
          have A8 : ShaAt w7 B (mixL (hs q (q.length / 64)) (put blk ((bl r).take c) (q.length % 64))) (put blk ((bl r).take c) (q.length % 64)) (q.length + ((bl r).take c).length) := by rw [HCL.out, ← HU.out]; exact A7
          go_roundw
          case rel => exact ⟨_, rfl, left_next HQ.out HP.out (hI2.full (take_lt r c) C1 A8) B7⟩
          case measure => simp only [strLen]; rw [ext_size r hc1]; omega
        · go_simp
          refine hK _ _ ?_
          clear hK K
          refine wpAny_one (i := 4) (by kernel_rfl) (fun K hK => wpOp_load L1 rfl rfl rfl rfl ?_)
          go_simp
          refine hK _ _ ?_
          clear hK K
          refine wpAny_one (i := 9) (by kernel_rfl) (fun K hK => wpOp_of rfl rfl ?_)
          go_simp
          refine (mixed_any _ _ _ (hs_len _ _) (hs_lt _ _) A5.lb (put_lt hI2.lt (take_lt r c)) K5).mono ?_
          rintro e w6 ⟨rfl, hb⟩
          have A6 := A5.same (hb.block B A5.lt)
          have B6 := B5.trans (But.of_below hb)
          clear L1 L2 A5 B5 K5 hb
          have S1 := A6.storeState (P := Tryd.prog) (ty := 53) (mix_len (hs q (q.length / 64)) (put blk ((bl r).take c) u)) (by kernel_rfl)
          have A7 := A6.row (q.length + c) (mix_len (hs q (q.length / 64)) (put blk ((bl r).take c) u)) A6.lb
          have B7 : But B w (w6.setRow B (shaV (mixL (hs q (q.length / 64)) (put blk ((bl r).take c) u)) (put blk ((bl r).take c) u) (q.length + c)).toArray) := B6.row
          generalize hY : w6.setRow B _ = w7 at S1 A7 B7
          clear hY A6 B6
          refine hK _ _ ?_
          clear hK K
          refine wpAny_of_seq (List.drop 10 (Array.toList _)) 10 _ _ _ (fun j => by rw [List.getElem?_drop, Array.getElem?_toList]) (by kernel_rfl) ?_
          simp only [List.drop_succ_cons, List.drop_zero]
          go_wp2_with (refine wpl_store S1 rfl rfl rfl rfl rfl ?_)
          have C1 : u + ((bl r).take c).length = 64 := by rw [HCL.out]; omega
          rw [HU.out] at C1
          have A8 : ShaAt w7 B (mixL (hs q (q.length / 64)) (put blk ((bl r).take c) (q.length % 64))) (put blk ((bl r).take c) (q.length % 64)) (q.length + ((bl r).take c).length) := by rw [HCL.out, ← HU.out]; exact A7
          go_roundw
          case rel => exact ⟨_, rfl, left_next HQ.out HP.out (hI2.full (take_lt r c) C1 A8) B7⟩
          case measure => simp only [strLen]; rw [ext_size r hc1]; omega
      · have z1 : ¬ ((q.length : Int) + (c : Int)) % 64 = 0 := by have := HU.out; omega
        have z3 : ((((q.length : Int) + (c : Int)) % 64) == 0) = false := by simpa using z1
        have Z := Lib.hid z1
        clear z1
        go_wp2
        have C1 : u + ((bl r).take c).length < 64 := by rw [HCL.out]; omega
        rw [HU.out] at C1
        have A8 : ShaAt w4 B (hs q (q.length / 64)) (put blk ((bl r).take c) (q.length % 64)) (q.length + ((bl r).take c).length) := by rw [HCL.out, ← HU.out]; exact A3
        go_roundw
        case rel => exact ⟨_, rfl, left_next HQ.out HP.out (hI2.more (take_lt r c) C1 A8) B3⟩
        case measure => simp only [strLen]; rw [ext_size r hc1]; omega
    · have hr0 : r.size = 0 := by omega
      have HR := Lib.hid hr0
      clear hr0
      go_wp2
      refine bodyPost_end (v := .tuple #[]) (by simp [results, Tryd.results30, go_sem]) rfl ⟨rfl, ⟨blk, ?_⟩, hBut⟩
      have e : bl r = [] := List.eq_nil_of_length_eq_zero (by rw [bl_len]; exact HR.out)
      have e2 := HP.out
      rw [e, List.append_nil] at e2
      rw [← e2]
      exact hI
end Go.Proofs.YtmnkhcefdpcheaaDoor.Sh
