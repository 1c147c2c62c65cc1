/-
  Contracts of the writer's methods: number, text, slip.
-/
import Derived.Test.YtdmgobffhpgjlaaGreatSlBld
import Derived.Test.YtdmgobffhpgjlaaGreatCrEnds

namespace Go.Proofs.YtdmgobffhpgjlaaGreat.Sl
open Go.RowKit Go.PlainAid Go.Proofs.YtdmgobffhpgjlaaGreat.Cr
set_option linter.unusedVariables false
set_option maxRecDepth 20000
set_option linter.unusedSimpArgs false

theorem be_get : ∀ (m : Nat) (n : Int) (i : Nat) (h : i < (be m n).length), (be m n)[i] = (n / 256 ^ (m - 1 - i) % 256).toNat
  | 0, n, i, h => by simp [be] at h
  | m + 1, n, 0, h => by simp [be]
  | m + 1, n, i + 1, h => by
    simp only [be, List.getElem_cons_succ]
    rw [be_get m n i, show m + 1 - 1 - (i + 1) = m - 1 - i by omega]
theorem be_snoc (m : Nat) (n : Int) (i : Nat) (h : i < m) : (be m n).take (i + 1) = (be m n).take i ++ [(n / 256 ^ (m - 1 - i) % 256).toNat] := by
  rw [List.take_succ_eq_append_getElem (by rw [be_len]; exact h), be_get]
theorem shr8 (n : Int) (t : Nat) : n / 2 ^ (8 * t) % 256 = (((n / 256 ^ t % 256).toNat : Nat) : Int) := by
  have e : (2 : Int) ^ (8 * t) = 256 ^ t := by rw [Int.pow_mul]; rfl
  rw [e]
  omega
set_option maxHeartbeats 2000000 in
theorem wnumber_any {b N : Nat} {l : List Nat} {w : World} (h : Wr w b N l) (n : Int) (m : Nat) (hm : m ≤ 8) (hl : l.length + 8 ≤ 1099511627776) :
    Calls Tryz.prog 74 #[.pointer (some ⟨b, 0, none⟩), .int .i64 n, .int .i64 (m : Int)] w fun e w' => e = .returned (.tuple #[]) ∧ Wr w' b N (l ++ be m n) ∧ Keeps b N w w' := by
  go_enter Tryz.func74, Tryz.ntmps74
  go_wp2
  go_loopw [6] (fun i wr => ∃ k : Nat, ∃ a : Int, k ≤ m ∧ a = (m : Int) - 1 - (k : Int) ∧ i = .int .i64 a ∧ Wr wr b N (l ++ (be m n).take k) ∧ Keeps b N w wr) (fun i _ => ((intOf i) + 1).toNat)
  case atStart => exact ⟨0, (m : Int) - 1, Nat.zero_le _, by omega, rfl, by rw [List.take_zero, List.append_nil]; exact h, Keeps.refl _ _ _⟩
  case round =>
    clear h
    obtain ⟨k, a, hk, ha, rfl, W1, K1⟩ := hrel
    by_cases hlt : 0 ≤ a
    · obtain ⟨t, rfl⟩ : ∃ t : Nat, a = (t : Int) := ⟨a.toNat, by omega⟩
      have BS := Lib.hid (be_snoc m n k (by omega))
      have e1 : m - 1 - k = t := by omega
      rw [e1] at BS
      have HA := Lib.hid ha
      clear ha e1
      have ht : t < 8 := by have := HA.out; omega
      have hkm : k < m := by have := HA.out; omega
      have e8 := shr8 n t
      have hc8 : (n / 256 ^ t % 256).toNat < 256 := by omega
      generalize (n / 256 ^ t % 256).toNat = c at BS e8 hc8
      have f2 : (0 : Int) ≤ 8 * (t : Int) := by omega
      have f3 : (8 * (t : Int)).toNat = 8 * t := by omega
      have f4 : min (8 * t) 64 = 8 * t := by omega
      have G1 : Hid (IntKind.i64.wrap (8 * (t : Int)) = 8 * (t : Int)) := Lib.hid (IntWalk.i64_in _ (by omega))
      have G2 : Hid (IntKind.u8.wrap (n / 2 ^ (8 * t)) = (c : Int)) := Lib.hid (by rw [IntKind.wrap_u8]; exact e8)
      clear e8
      replace W1 := W1.drew
      go_wp2
      refine wp_region_held (S := fun _ => True) (by kernel_rfl) ?_
      change wpAnyH _ _ _ _ _ _ _ _ wr.drew
      replace K1 := K1.trans (Keeps.of_below ((Below.refl N _).drew))
      generalize wr.drew = w1 at W1 K1 ⊢
      refine held_take 0 (.pointer (some ⟨b, 0, none⟩)) rfl (by kernel_rfl) (by kernel_rfl) (by kernel_rfl) (fun _ _ _ h => h) (Or.inl ⟨by rfl, fun x j => by go_simp⟩) trivial (fun K hK => ?_)
      go_simp
      refine hK _ _ ?_
      clear hK K
      refine held_take 1 (.pointer (some ⟨b, 0, none⟩)) rfl (by kernel_rfl) (by kernel_rfl) (by kernel_rfl) (fun _ _ _ h => h) (Or.inl ⟨by rfl, fun x j => by go_simp⟩) trivial (fun K hK => ?_)
      go_simp
      refine hK _ _ ?_
      clear hK K
      refine held_take 2 (.pointer (some ⟨b, 0, none⟩)) rfl (by kernel_rfl) (by kernel_rfl) (by kernel_rfl) (fun _ _ _ h => h) (Or.inl ⟨by rfl, fun x j => by go_simp⟩) trivial (fun K hK => ?_)
      go_simp
      refine hK _ _ ?_
      clear hK K
      refine held_take 3 (.int .i64 n) rfl (by kernel_rfl) (by kernel_rfl) (by kernel_rfl) (fun _ _ _ h => h) (Or.inl ⟨by rfl, fun x j => by go_simp⟩) trivial (fun K hK => ?_)
      go_simp
      refine hK _ _ ?_
      clear hK K
      refine held_take 4 (.int .i64 (t : Int)) rfl (by kernel_rfl) (by kernel_rfl) (by kernel_rfl) (fun _ _ _ h => h) (Or.inl ⟨by rfl, fun x j => by go_simp⟩) trivial (fun K hK => ?_)
      go_simp
      refine hK _ _ ?_
      clear hK K
      refine held_take 5 (.int .i64 (8 * (t : Int))) rfl (by kernel_rfl) (by kernel_rfl) (by kernel_rfl) (fun _ _ _ h => h) (Or.inl ⟨by rfl, fun x j => by go_simp; exact G1.out⟩) trivial (fun K hK => ?_)
      go_simp
      refine hK _ _ ?_
      clear hK K
      refine held_take 6 (.int .i64 (n / 2 ^ (8 * t))) rfl (by kernel_rfl) (by kernel_rfl) (by kernel_rfl) (fun _ _ _ h => h) (Or.inl ⟨by rfl, fun x j => by go_simp⟩) trivial (fun K hK => ?_)
      go_simp
      refine hK _ _ ?_
      clear hK K
      refine held_take 7 (.int .u8 ((c : Nat) : Int)) rfl (by kernel_rfl) (by kernel_rfl) (by kernel_rfl) (fun _ _ _ h => h) (Or.inl ⟨by rfl, fun x j => by go_simp; exact G2.out⟩) trivial (fun K hK => ?_)
      go_simp
      refine hK _ _ ?_
      clear hK K
      refine held_one 8 (by kernel_rfl) (fun K hK => wpOp_in rfl rfl ?_)
      go_simp
      refine (byte_any W1 c hc8 (by rw [List.length_append, List.length_take, be_len]; omega)).mono ?_
      rintro e w2 ⟨rfl, W2, K2⟩
      refine hK _ _ trivial ?_
      clear hK K
      refine wpAnyH_done (by kernel_rfl) ?_ _
      rw [List.append_assoc, ← BS.out] at W2
      have K3 := K1.trans K2
      clear W1 K1 K2 BS
      go_wp2
      go_roundw
      case rel => exact ⟨k + 1, _, by have := HA.out; omega, by have := HA.out; push_cast; omega, rfl, W2, K3⟩
      case measure => simp [intOf]
    · have hkm : k = m := by omega
      have hlt : a < 0 := by omega
      subst hkm
      rw [List.take_of_length_le (by rw [be_len]; exact Nat.le_refl _)] at W1
      clear ha
      go_wp2
      go_end0
      exact ⟨rfl, W1, K1⟩
set_option maxHeartbeats 1000000 in
theorem wtext_any {b N : Nat} {l : List Nat} {w : World} (h : Wr w b N l) (s : ByteArray) (hl : l.length + s.size + 8 ≤ 1099511627776) :
    Calls Tryz.prog 98 #[.pointer (some ⟨b, 0, none⟩), .string s] w fun e w' => e = .returned (.tuple #[]) ∧ Wr w' b N (l ++ txt s) ∧ Keeps b N w w' := by
  have hs : s.size ≤ 9223372036854775807 := by omega
  go_enter Tryz.func98, Tryz.ntmps98
  go_wp2_with fail
  refine (wnumber_any h (s.size : Int) 1 (by decide) (by omega)).mono ?_
  rintro e w2 ⟨rfl, W2, K2⟩
  clear h
  go_wp2_with fail
  refine (string_any W2 s (by rw [List.length_append, be_len]; omega)).mono ?_
  rintro e w3 ⟨rfl, W3, K3⟩
  rw [List.append_assoc] at W3
  have K4 := K2.trans K3
  clear W2 K2 K3
  go_wp2
  go_end0
  exact ⟨rfl, W3, K4⟩
theorem Can.names_le {x : Sp} (h : Can x) : x.repo.size ≤ 128 ∧ x.tag.size ≤ 128 := by
  cases e : hT x.k
  · obtain ⟨h1, h2⟩ := h.noNames e
    rw [h1, h2]
    exact ⟨by decide, by decide⟩
  · have := h.names e
    omega
theorem fresh_wr {w : World} {b M : Nat} (h : At w b 122 #[.pointer none, .slice none 0 0]) (hb : b < M) (hM : M ≤ w.heap.size) : Wr w b M [] :=
  ⟨hb, hM, by simp, .pointer none, .slice none 0 0, Or.inl rfl, h.heap, World.ownsRowF_nil _ _ _ _⟩
theorem Keeps.mono {b N M : Nat} {w w' : World} (h : Keeps b N w w') (hM : M ≤ N) : Keeps b M w w' := ⟨h.os, h.tape, h.output, h.size, fun k hk => h.block k (by omega)⟩
theorem dig_cells {w : World} {B : Nat} {x : Sp} (X : At w B 39 (slV x)) (hd : Dig x.dig) : ∀ j u, (dV x.dig)[j]? = some u → w.cell? ((⟨B, 3, none⟩ : Addr).add j) = some u := by
  intro j u hj
  rw [add_at, X.cell]
  obtain ⟨b, hb, rfl⟩ : ∃ b, x.dig[j]? = some b ∧ u = .int .u8 (b : Int) := by
    simp only [dV, List.getElem?_map, Option.map_eq_some_iff] at hj
    obtain ⟨b, h1, h2⟩ := hj
    exact ⟨b, h1, h2.symm⟩
  exact slD hd.len hb
set_option maxHeartbeats 4000000 in
theorem wslip_bind {w : World} {b : Nat} (hb : At w b 122 #[.pointer none, .slice none 0 0]) (x : Sp) (hk : x.k = 1) (hc : Can x) :
    Calls Tryz.prog 73 #[.pointer (some ⟨b, 0, none⟩), .agg (slV x)] w fun e w' => e = .returned (.tuple #[]) ∧ (∃ M, w.heap.size ≤ M ∧ Wr w' b M (bodyL x)) ∧ Keeps b w.heap.size w w' := by
  have hd := hc.dig
  obtain ⟨hn1, hn2⟩ := hc.names_le
  have hty := hc.ty
  have hbl := hb.lt
  have BODY := Lib.hid (show bodyL x = bodyL x from rfl)
  have e0 : (slV x)[0]? = some (.int .i64 1) := by rw [sl0, hk]
  have X := At.new w 39 (slV x)
  have F : Below w.heap.size w (w.alloc (.cells (slV x) 39)) := (Below.refl _ _).alloc (Nat.le_refl _) _
  have hb := hb.alloc (.cells (slV x) 39)
  go_enter Tryz.func73, Tryz.ntmps73
  go_upto_region 1 with (fail)
  obtain ⟨B, hB⟩ : ∃ B, B = w.heap.size := ⟨_, rfl⟩
  rw [← hB] at X F ⊢
  generalize w.alloc (.cells (slV x) 39) = w1 at X F hb ⊢
  have c0 : w1.cell? ⟨B, 0, none⟩ = some (.int .i64 1) := (X.cell 0).trans e0
  have HBW := Lib.hid hB
  clear hB e0
  go_wp2_with fail
  refine (layout_any 1 _).mono ?_
  rintro e w2 ⟨rfl, G⟩
  replace X := X.old G
  replace hb := hb.old G
  replace F := F.trans (G.mono (by have := F.size; have := HBW.out; omega))
  have F0 := F
  clear G c0
  obtain ⟨w3, S3, Y, G, Z3⟩ := keep (P := Tryz.prog) (ty := 146) w2 #[.bool false, .bool false, .bool false, .bool false] (layV 1) 146 (by kernel_rfl) rfl (lay_one 1)
  have X2 := X
  replace X := X.old G
  replace hb := hb.old G
  replace F := F.trans (G.mono (by have := F.size; have := HBW.out; omega))
  clear G X2
  have hBL : B < w3.heap.size ∧ b < w3.heap.size ∧ w2.heap.size < w3.heap.size ∧ B ≠ b := ⟨X.lt, hb.lt, Y.lt, by have := HBW.out; omega⟩
  have hLb : w2.heap.size ≠ b := by have := F0.size; have := HBW.out; omega
  have hMB : B ≤ w3.heap.size := by omega
  have W := fresh_wr hb hBL.2.1 (Nat.le_refl _)
  go_upto_region 2 with (refine wpl_store S3 rfl rfl rfl rfl rfl ?_)
  have K := Keeps.of_below (b := b) F
  clear F F0 S3 Z3 hb
  generalize w3.heap.size = M at hBL hMB W ⊢
  generalize w2.heap.size = L at hBL Y hLb ⊢
  obtain ⟨hBM, hbM, hLM, hBb⟩ := hBL
  have c0 : w3.cell? ⟨B, 0, none⟩ = some (.int .i64 1) := (X.cell 0).trans (by rw [sl0, hk])
  go_wp2_with fail
  refine (wnumber_any W 1 1 (by decide) (by simp only [List.length_append, List.length_nil, be_len, txt_len, hd.len]; omega)).mono ?_
  rintro e w4 ⟨rfl, W', K'⟩
  replace X := X.keeps K' hBM hBb
  replace Y := Y.keeps K' hLM hLb
  replace K := K.trans (K'.mono hMB)
  clear W K' c0
  have W := W'
  clear W'
  have c1 : w4.cell? ⟨B, 1, none⟩ = some (.string x.repo) := X.cell 1
  have y0 : w4.cell? ⟨L, 0, none⟩ = some (.bool true) := Y.cell 0
  go_wp2_with fail
  refine (wtext_any W x.repo (by simp only [List.length_append, List.length_nil, be_len, txt_len, hd.len]; omega)).mono ?_
  rintro e w5 ⟨rfl, W', K'⟩
  replace X := X.keeps K' hBM hBb
  replace Y := Y.keeps K' hLM hLb
  replace K := K.trans (K'.mono hMB)
  clear W K' c1 y0
  have W := W'
  clear W'
  have c2 : w5.cell? ⟨B, 2, none⟩ = some (.string x.tag) := X.cell 2
  go_wp2_with fail
  refine (wtext_any W x.tag (by simp only [List.length_append, List.length_nil, be_len, txt_len, hd.len]; omega)).mono ?_
  rintro e w6 ⟨rfl, W', K'⟩
  replace X := X.keeps K' hBM hBb
  replace Y := Y.keeps K' hLM hLb
  replace K := K.trans (K'.mono hMB)
  clear W K' c2
  have W := W'
  clear W'
  have y1 : w6.cell? ⟨L, 1, none⟩ = some (.bool true) := Y.cell 1
  go_upto_region 7 with (fail)
  clear y1
  refine wp_region_held (S := fun _ => True) (by kernel_rfl) ?_
  change wpAnyH _ _ _ _ _ _ _ _ w6.drew
  replace W := W.drew
  replace X := X.drew
  replace Y := Y.drew
  replace K := K.trans (Keeps.of_below ((Below.refl B _).drew))
  generalize w6.drew = wd at W X Y K ⊢
  refine held_take 0 (.pointer (some ⟨b, 0, none⟩)) rfl (by kernel_rfl) (by kernel_rfl) (by kernel_rfl) (fun _ _ _ h => h) (Or.inl ⟨by rfl, fun x j => by go_simp⟩) trivial (fun K hK => ?_)
  go_simp
  refine hK _ _ ?_
  clear hK K
  refine held_take 1 (.pointer (some ⟨b, 0, none⟩)) rfl (by kernel_rfl) (by kernel_rfl) (by kernel_rfl) (fun _ _ _ h => h) (Or.inl ⟨by rfl, fun x j => by go_simp⟩) trivial (fun K hK => ?_)
  go_simp
  refine hK _ _ ?_
  clear hK K
  refine held_take 2 (.pointer (some ⟨b, 0, none⟩)) rfl (by kernel_rfl) (by kernel_rfl) (by kernel_rfl) (fun _ _ _ h => h) (Or.inl ⟨by rfl, fun x j => by go_simp⟩) trivial (fun K hK => ?_)
  go_simp
  refine hK _ _ ?_
  clear hK K
  refine held_take 3 (.pointer (some ⟨B, 3, none⟩)) rfl (by kernel_rfl) (by kernel_rfl) (by kernel_rfl) (fun _ _ _ h => h) (Or.inl ⟨by rfl, fun x j => by go_simp⟩) trivial (fun K hK => ?_)
  go_simp
  refine hK _ _ ?_
  clear hK K
  refine held_take 4 (.slice (some ⟨B, 3, none⟩) 32 32) rfl (by kernel_rfl) (by kernel_rfl) (by kernel_rfl) (fun _ _ _ h => h) (Or.inl ⟨by rfl, fun x j => by go_simp⟩) trivial (fun K hK => ?_)
  go_simp
  refine hK _ _ ?_
  clear hK K
  refine held_one 5 (by kernel_rfl) (fun K hK => wpOp_in rfl rfl ?_)
  go_simp
  rw [show (32 : Nat) = x.dig.length from hd.len.symm]
  refine (bytes_any W (a := ⟨B, 3, none⟩) (q := x.dig) hd.lt hBb hBM (dig_cells X hd) (by simp only [List.length_append, List.length_nil, be_len, txt_len, hd.len]; omega)).mono ?_
  rintro e wz ⟨rfl, W', K'⟩
  refine hK _ _ trivial ?_
  clear hK K
  refine wpAnyH_done (by kernel_rfl) ?_ _
  replace X := X.keeps K' hBM hBb
  replace Y := Y.keeps K' hLM hLb
  replace K := K.trans (K'.mono hMB)
  clear W K'
  have W := W'
  clear W'
  generalize wz = w7 at W X Y K ⊢
  have c35 : w7.cell? ⟨B, 35, none⟩ = some (.string x.ty) := (X.cell 35).trans (sl35 hd.len)
  have y2 : w7.cell? ⟨L, 2, none⟩ = some (.bool true) := Y.cell 2
  go_wp2_with fail
  refine (wtext_any W x.ty (by simp only [List.length_append, List.length_nil, be_len, txt_len, hd.len]; omega)).mono ?_
  rintro e w8 ⟨rfl, W', K'⟩
  replace X := X.keeps K' hBM hBb
  replace Y := Y.keeps K' hLM hLb
  replace K := K.trans (K'.mono hMB)
  clear W K' c35 y2
  have W := W'
  clear W'
  have c36 : w8.cell? ⟨B, 36, none⟩ = some (.int .i64 x.sz) := (X.cell 36).trans (sl36 hd.len)
  go_wp2_with fail
  refine (wnumber_any W x.sz 8 (by decide) (by simp only [List.length_append, List.length_nil, be_len, txt_len, hd.len]; omega)).mono ?_
  rintro e w9 ⟨rfl, W', K'⟩
  replace X := X.keeps K' hBM hBb
  replace Y := Y.keeps K' hLM hLb
  replace K := K.trans (K'.mono hMB)
  clear W K' c36
  have W := W'
  clear W'
  have c37 : w9.cell? ⟨B, 37, none⟩ = some (.int .i64 x.tm) := (X.cell 37).trans (sl37 hd.len)
  have y3 : w9.cell? ⟨L, 3, none⟩ = some (.bool true) := Y.cell 3
  go_wp2_with fail
  refine (wnumber_any W x.tm 8 (by decide) (by simp only [List.length_append, List.length_nil, be_len, txt_len, hd.len]; omega)).mono ?_
  rintro e w10 ⟨rfl, W', K'⟩
  replace X := X.keeps K' hBM hBb
  replace Y := Y.keeps K' hLM hLb
  replace K := K.trans (K'.mono hMB)
  clear W K' c37 y3
  have W := W'
  clear W'
  have W9 : Wr w10 b M (bodyL x) := by
    have e : bodyL x = _ := rfl
    simp only [bodyL, pT, pD, pM, pA, hk]
    simpa [hT, hD, hM, hA, List.append_assoc] using W
  clear W
  go_wp2
  go_end0
  exact ⟨rfl, ⟨M, by have := HBW.out; omega, W9⟩, by have := HBW.out; rw [← this]; exact K⟩
set_option maxHeartbeats 4000000 in
theorem wslip_miss {w : World} {b : Nat} (hb : At w b 122 #[.pointer none, .slice none 0 0]) (x : Sp) (hk : x.k = 2) (hc : Can x) :
    Calls Tryz.prog 73 #[.pointer (some ⟨b, 0, none⟩), .agg (slV x)] w fun e w' => e = .returned (.tuple #[]) ∧ (∃ M, w.heap.size ≤ M ∧ Wr w' b M (bodyL x)) ∧ Keeps b w.heap.size w w' := by
  have hd := hc.dig
  obtain ⟨hn1, hn2⟩ := hc.names_le
  have hty := hc.ty
  have hbl := hb.lt
  have BODY := Lib.hid (show bodyL x = bodyL x from rfl)
  have e0 : (slV x)[0]? = some (.int .i64 2) := by rw [sl0, hk]
  have X := At.new w 39 (slV x)
  have F : Below w.heap.size w (w.alloc (.cells (slV x) 39)) := (Below.refl _ _).alloc (Nat.le_refl _) _
  have hb := hb.alloc (.cells (slV x) 39)
  go_enter Tryz.func73, Tryz.ntmps73
  go_upto_region 1 with (fail)
  obtain ⟨B, hB⟩ : ∃ B, B = w.heap.size := ⟨_, rfl⟩
  rw [← hB] at X F ⊢
  generalize w.alloc (.cells (slV x) 39) = w1 at X F hb ⊢
  have c0 : w1.cell? ⟨B, 0, none⟩ = some (.int .i64 2) := (X.cell 0).trans e0
  have HBW := Lib.hid hB
  clear hB e0
  go_wp2_with fail
  refine (layout_any 2 _).mono ?_
  rintro e w2 ⟨rfl, G⟩
  replace X := X.old G
  replace hb := hb.old G
  replace F := F.trans (G.mono (by have := F.size; have := HBW.out; omega))
  have F0 := F
  clear G c0
  obtain ⟨w3, S3, Y, G, Z3⟩ := keep (P := Tryz.prog) (ty := 146) w2 #[.bool false, .bool false, .bool false, .bool false] (layV 2) 146 (by kernel_rfl) rfl (lay_one 2)
  have X2 := X
  replace X := X.old G
  replace hb := hb.old G
  replace F := F.trans (G.mono (by have := F.size; have := HBW.out; omega))
  clear G X2
  have hBL : B < w3.heap.size ∧ b < w3.heap.size ∧ w2.heap.size < w3.heap.size ∧ B ≠ b := ⟨X.lt, hb.lt, Y.lt, by have := HBW.out; omega⟩
  have hLb : w2.heap.size ≠ b := by have := F0.size; have := HBW.out; omega
  have hMB : B ≤ w3.heap.size := by omega
  have W := fresh_wr hb hBL.2.1 (Nat.le_refl _)
  go_upto_region 2 with (refine wpl_store S3 rfl rfl rfl rfl rfl ?_)
  have K := Keeps.of_below (b := b) F
  clear F F0 S3 Z3 hb
  generalize w3.heap.size = M at hBL hMB W ⊢
  generalize w2.heap.size = L at hBL Y hLb ⊢
  obtain ⟨hBM, hbM, hLM, hBb⟩ := hBL
  have c0 : w3.cell? ⟨B, 0, none⟩ = some (.int .i64 2) := (X.cell 0).trans (by rw [sl0, hk])
  go_wp2_with fail
  refine (wnumber_any W 2 1 (by decide) (by simp only [List.length_append, List.length_nil, be_len, txt_len, hd.len]; omega)).mono ?_
  rintro e w4 ⟨rfl, W', K'⟩
  replace X := X.keeps K' hBM hBb
  replace Y := Y.keeps K' hLM hLb
  replace K := K.trans (K'.mono hMB)
  clear W K' c0
  have W := W'
  clear W'
  have c1 : w4.cell? ⟨B, 1, none⟩ = some (.string x.repo) := X.cell 1
  have y0 : w4.cell? ⟨L, 0, none⟩ = some (.bool true) := Y.cell 0
  go_wp2_with fail
  refine (wtext_any W x.repo (by simp only [List.length_append, List.length_nil, be_len, txt_len, hd.len]; omega)).mono ?_
  rintro e w5 ⟨rfl, W', K'⟩
  replace X := X.keeps K' hBM hBb
  replace Y := Y.keeps K' hLM hLb
  replace K := K.trans (K'.mono hMB)
  clear W K' c1 y0
  have W := W'
  clear W'
  have c2 : w5.cell? ⟨B, 2, none⟩ = some (.string x.tag) := X.cell 2
  go_wp2_with fail
  refine (wtext_any W x.tag (by simp only [List.length_append, List.length_nil, be_len, txt_len, hd.len]; omega)).mono ?_
  rintro e w6 ⟨rfl, W', K'⟩
  replace X := X.keeps K' hBM hBb
  replace Y := Y.keeps K' hLM hLb
  replace K := K.trans (K'.mono hMB)
  clear W K' c2
  have W := W'
  clear W'
  have c37 : w6.cell? ⟨B, 37, none⟩ = some (.int .i64 x.tm) := (X.cell 37).trans (sl37 hd.len)
  have y1 : w6.cell? ⟨L, 1, none⟩ = some (.bool false) := Y.cell 1
  have y2 : w6.cell? ⟨L, 2, none⟩ = some (.bool false) := Y.cell 2
  have y3 : w6.cell? ⟨L, 3, none⟩ = some (.bool true) := Y.cell 3
  go_wp2_with fail
  refine (wnumber_any W x.tm 8 (by decide) (by simp only [List.length_append, List.length_nil, be_len, txt_len, hd.len]; omega)).mono ?_
  rintro e w7 ⟨rfl, W', K'⟩
  replace X := X.keeps K' hBM hBb
  replace Y := Y.keeps K' hLM hLb
  replace K := K.trans (K'.mono hMB)
  clear W K' c37 y1 y2 y3
  have W := W'
  clear W'
  have W9 : Wr w7 b M (bodyL x) := by
    have e : bodyL x = _ := rfl
    simp only [bodyL, pT, pD, pM, pA, hk]
    simpa [hT, hD, hM, hA, List.append_assoc] using W
  clear W
  go_wp2
  go_end0
  exact ⟨rfl, ⟨M, by have := HBW.out; omega, W9⟩, by have := HBW.out; rw [← this]; exact K⟩
set_option maxHeartbeats 4000000 in
theorem wslip_drop {w : World} {b : Nat} (hb : At w b 122 #[.pointer none, .slice none 0 0]) (x : Sp) (hk : x.k = 3) (hc : Can x) :
    Calls Tryz.prog 73 #[.pointer (some ⟨b, 0, none⟩), .agg (slV x)] w fun e w' => e = .returned (.tuple #[]) ∧ (∃ M, w.heap.size ≤ M ∧ Wr w' b M (bodyL x)) ∧ Keeps b w.heap.size w w' := by
  have hd := hc.dig
  obtain ⟨hn1, hn2⟩ := hc.names_le
  have hty := hc.ty
  have hbl := hb.lt
  have BODY := Lib.hid (show bodyL x = bodyL x from rfl)
  have e0 : (slV x)[0]? = some (.int .i64 3) := by rw [sl0, hk]
  have X := At.new w 39 (slV x)
  have F : Below w.heap.size w (w.alloc (.cells (slV x) 39)) := (Below.refl _ _).alloc (Nat.le_refl _) _
  have hb := hb.alloc (.cells (slV x) 39)
  go_enter Tryz.func73, Tryz.ntmps73
  go_upto_region 1 with (fail)
  obtain ⟨B, hB⟩ : ∃ B, B = w.heap.size := ⟨_, rfl⟩
  rw [← hB] at X F ⊢
  generalize w.alloc (.cells (slV x) 39) = w1 at X F hb ⊢
  have c0 : w1.cell? ⟨B, 0, none⟩ = some (.int .i64 3) := (X.cell 0).trans e0
  have HBW := Lib.hid hB
  clear hB e0
  go_wp2_with fail
  refine (layout_any 3 _).mono ?_
  rintro e w2 ⟨rfl, G⟩
  replace X := X.old G
  replace hb := hb.old G
  replace F := F.trans (G.mono (by have := F.size; have := HBW.out; omega))
  have F0 := F
  clear G c0
  obtain ⟨w3, S3, Y, G, Z3⟩ := keep (P := Tryz.prog) (ty := 146) w2 #[.bool false, .bool false, .bool false, .bool false] (layV 3) 146 (by kernel_rfl) rfl (lay_one 3)
  have X2 := X
  replace X := X.old G
  replace hb := hb.old G
  replace F := F.trans (G.mono (by have := F.size; have := HBW.out; omega))
  clear G X2
  have hBL : B < w3.heap.size ∧ b < w3.heap.size ∧ w2.heap.size < w3.heap.size ∧ B ≠ b := ⟨X.lt, hb.lt, Y.lt, by have := HBW.out; omega⟩
  have hLb : w2.heap.size ≠ b := by have := F0.size; have := HBW.out; omega
  have hMB : B ≤ w3.heap.size := by omega
  have W := fresh_wr hb hBL.2.1 (Nat.le_refl _)
  go_upto_region 2 with (refine wpl_store S3 rfl rfl rfl rfl rfl ?_)
  have K := Keeps.of_below (b := b) F
  clear F F0 S3 Z3 hb
  generalize w3.heap.size = M at hBL hMB W ⊢
  generalize w2.heap.size = L at hBL Y hLb ⊢
  obtain ⟨hBM, hbM, hLM, hBb⟩ := hBL
  have c0 : w3.cell? ⟨B, 0, none⟩ = some (.int .i64 3) := (X.cell 0).trans (by rw [sl0, hk])
  go_wp2_with fail
  refine (wnumber_any W 3 1 (by decide) (by simp only [List.length_append, List.length_nil, be_len, txt_len, hd.len]; omega)).mono ?_
  rintro e w4 ⟨rfl, W', K'⟩
  replace X := X.keeps K' hBM hBb
  replace Y := Y.keeps K' hLM hLb
  replace K := K.trans (K'.mono hMB)
  clear W K' c0
  have W := W'
  clear W'
  have c1 : w4.cell? ⟨B, 1, none⟩ = some (.string x.repo) := X.cell 1
  have y0 : w4.cell? ⟨L, 0, none⟩ = some (.bool true) := Y.cell 0
  go_wp2_with fail
  refine (wtext_any W x.repo (by simp only [List.length_append, List.length_nil, be_len, txt_len, hd.len]; omega)).mono ?_
  rintro e w5 ⟨rfl, W', K'⟩
  replace X := X.keeps K' hBM hBb
  replace Y := Y.keeps K' hLM hLb
  replace K := K.trans (K'.mono hMB)
  clear W K' c1 y0
  have W := W'
  clear W'
  have c2 : w5.cell? ⟨B, 2, none⟩ = some (.string x.tag) := X.cell 2
  go_wp2_with fail
  refine (wtext_any W x.tag (by simp only [List.length_append, List.length_nil, be_len, txt_len, hd.len]; omega)).mono ?_
  rintro e w6 ⟨rfl, W', K'⟩
  replace X := X.keeps K' hBM hBb
  replace Y := Y.keeps K' hLM hLb
  replace K := K.trans (K'.mono hMB)
  clear W K' c2
  have W := W'
  clear W'
  have y1 : w6.cell? ⟨L, 1, none⟩ = some (.bool false) := Y.cell 1
  have y2 : w6.cell? ⟨L, 2, none⟩ = some (.bool false) := Y.cell 2
  have y3 : w6.cell? ⟨L, 3, none⟩ = some (.bool false) := Y.cell 3
  have W9 : Wr w6 b M (bodyL x) := by
    have e : bodyL x = _ := rfl
    simp only [bodyL, pT, pD, pM, pA, hk]
    simpa [hT, hD, hM, hA, List.append_assoc] using W
  clear W
  go_wp2
  go_end0
  exact ⟨rfl, ⟨M, by have := HBW.out; omega, W9⟩, by have := HBW.out; rw [← this]; exact K⟩
set_option maxHeartbeats 4000000 in
theorem wslip_blob {w : World} {b : Nat} (hb : At w b 122 #[.pointer none, .slice none 0 0]) (x : Sp) (hk : x.k = 4) (hc : Can x) :
    Calls Tryz.prog 73 #[.pointer (some ⟨b, 0, none⟩), .agg (slV x)] w fun e w' => e = .returned (.tuple #[]) ∧ (∃ M, w.heap.size ≤ M ∧ Wr w' b M (bodyL x)) ∧ Keeps b w.heap.size w w' := by
  have hd := hc.dig
  obtain ⟨hn1, hn2⟩ := hc.names_le
  have hty := hc.ty
  have hbl := hb.lt
  have BODY := Lib.hid (show bodyL x = bodyL x from rfl)
  have e0 : (slV x)[0]? = some (.int .i64 4) := by rw [sl0, hk]
  have X := At.new w 39 (slV x)
  have F : Below w.heap.size w (w.alloc (.cells (slV x) 39)) := (Below.refl _ _).alloc (Nat.le_refl _) _
  have hb := hb.alloc (.cells (slV x) 39)
  go_enter Tryz.func73, Tryz.ntmps73
  go_upto_region 1 with (fail)
  obtain ⟨B, hB⟩ : ∃ B, B = w.heap.size := ⟨_, rfl⟩
  rw [← hB] at X F ⊢
  generalize w.alloc (.cells (slV x) 39) = w1 at X F hb ⊢
  have c0 : w1.cell? ⟨B, 0, none⟩ = some (.int .i64 4) := (X.cell 0).trans e0
  have HBW := Lib.hid hB
  clear hB e0
  go_wp2_with fail
  refine (layout_any 4 _).mono ?_
  rintro e w2 ⟨rfl, G⟩
  replace X := X.old G
  replace hb := hb.old G
  replace F := F.trans (G.mono (by have := F.size; have := HBW.out; omega))
  have F0 := F
  clear G c0
  obtain ⟨w3, S3, Y, G, Z3⟩ := keep (P := Tryz.prog) (ty := 146) w2 #[.bool false, .bool false, .bool false, .bool false] (layV 4) 146 (by kernel_rfl) rfl (lay_one 4)
  have X2 := X
  replace X := X.old G
  replace hb := hb.old G
  replace F := F.trans (G.mono (by have := F.size; have := HBW.out; omega))
  clear G X2
  have hBL : B < w3.heap.size ∧ b < w3.heap.size ∧ w2.heap.size < w3.heap.size ∧ B ≠ b := ⟨X.lt, hb.lt, Y.lt, by have := HBW.out; omega⟩
  have hLb : w2.heap.size ≠ b := by have := F0.size; have := HBW.out; omega
  have hMB : B ≤ w3.heap.size := by omega
  have W := fresh_wr hb hBL.2.1 (Nat.le_refl _)
  go_upto_region 2 with (refine wpl_store S3 rfl rfl rfl rfl rfl ?_)
  have K := Keeps.of_below (b := b) F
  clear F F0 S3 Z3 hb
  generalize w3.heap.size = M at hBL hMB W ⊢
  generalize w2.heap.size = L at hBL Y hLb ⊢
  obtain ⟨hBM, hbM, hLM, hBb⟩ := hBL
  have c0 : w3.cell? ⟨B, 0, none⟩ = some (.int .i64 4) := (X.cell 0).trans (by rw [sl0, hk])
  go_wp2_with fail
  refine (wnumber_any W 4 1 (by decide) (by simp only [List.length_append, List.length_nil, be_len, txt_len, hd.len]; omega)).mono ?_
  rintro e w4 ⟨rfl, W', K'⟩
  replace X := X.keeps K' hBM hBb
  replace Y := Y.keeps K' hLM hLb
  replace K := K.trans (K'.mono hMB)
  clear W K' c0
  have W := W'
  clear W'
  have y0 : w4.cell? ⟨L, 0, none⟩ = some (.bool false) := Y.cell 0
  have y1 : w4.cell? ⟨L, 1, none⟩ = some (.bool true) := Y.cell 1
  go_upto_region 7 with (fail)
  clear y0 y1
  refine wp_region_held (S := fun _ => True) (by kernel_rfl) ?_
  change wpAnyH _ _ _ _ _ _ _ _ w4.drew
  replace W := W.drew
  replace X := X.drew
  replace Y := Y.drew
  replace K := K.trans (Keeps.of_below ((Below.refl B _).drew))
  generalize w4.drew = wd at W X Y K ⊢
  refine held_take 0 (.pointer (some ⟨b, 0, none⟩)) rfl (by kernel_rfl) (by kernel_rfl) (by kernel_rfl) (fun _ _ _ h => h) (Or.inl ⟨by rfl, fun x j => by go_simp⟩) trivial (fun K hK => ?_)
  go_simp
  refine hK _ _ ?_
  clear hK K
  refine held_take 1 (.pointer (some ⟨b, 0, none⟩)) rfl (by kernel_rfl) (by kernel_rfl) (by kernel_rfl) (fun _ _ _ h => h) (Or.inl ⟨by rfl, fun x j => by go_simp⟩) trivial (fun K hK => ?_)
  go_simp
  refine hK _ _ ?_
  clear hK K
  refine held_take 2 (.pointer (some ⟨b, 0, none⟩)) rfl (by kernel_rfl) (by kernel_rfl) (by kernel_rfl) (fun _ _ _ h => h) (Or.inl ⟨by rfl, fun x j => by go_simp⟩) trivial (fun K hK => ?_)
  go_simp
  refine hK _ _ ?_
  clear hK K
  refine held_take 3 (.pointer (some ⟨B, 3, none⟩)) rfl (by kernel_rfl) (by kernel_rfl) (by kernel_rfl) (fun _ _ _ h => h) (Or.inl ⟨by rfl, fun x j => by go_simp⟩) trivial (fun K hK => ?_)
  go_simp
  refine hK _ _ ?_
  clear hK K
  refine held_take 4 (.slice (some ⟨B, 3, none⟩) 32 32) rfl (by kernel_rfl) (by kernel_rfl) (by kernel_rfl) (fun _ _ _ h => h) (Or.inl ⟨by rfl, fun x j => by go_simp⟩) trivial (fun K hK => ?_)
  go_simp
  refine hK _ _ ?_
  clear hK K
  refine held_one 5 (by kernel_rfl) (fun K hK => wpOp_in rfl rfl ?_)
  go_simp
  rw [show (32 : Nat) = x.dig.length from hd.len.symm]
  refine (bytes_any W (a := ⟨B, 3, none⟩) (q := x.dig) hd.lt hBb hBM (dig_cells X hd) (by simp only [List.length_append, List.length_nil, be_len, txt_len, hd.len]; omega)).mono ?_
  rintro e wz ⟨rfl, W', K'⟩
  refine hK _ _ trivial ?_
  clear hK K
  refine wpAnyH_done (by kernel_rfl) ?_ _
  replace X := X.keeps K' hBM hBb
  replace Y := Y.keeps K' hLM hLb
  replace K := K.trans (K'.mono hMB)
  clear W K'
  have W := W'
  clear W'
  generalize wz = w5 at W X Y K ⊢
  have c35 : w5.cell? ⟨B, 35, none⟩ = some (.string x.ty) := (X.cell 35).trans (sl35 hd.len)
  have y2 : w5.cell? ⟨L, 2, none⟩ = some (.bool true) := Y.cell 2
  go_wp2_with fail
  refine (wtext_any W x.ty (by simp only [List.length_append, List.length_nil, be_len, txt_len, hd.len]; omega)).mono ?_
  rintro e w6 ⟨rfl, W', K'⟩
  replace X := X.keeps K' hBM hBb
  replace Y := Y.keeps K' hLM hLb
  replace K := K.trans (K'.mono hMB)
  clear W K' c35 y2
  have W := W'
  clear W'
  have c36 : w6.cell? ⟨B, 36, none⟩ = some (.int .i64 x.sz) := (X.cell 36).trans (sl36 hd.len)
  go_wp2_with fail
  refine (wnumber_any W x.sz 8 (by decide) (by simp only [List.length_append, List.length_nil, be_len, txt_len, hd.len]; omega)).mono ?_
  rintro e w7 ⟨rfl, W', K'⟩
  replace X := X.keeps K' hBM hBb
  replace Y := Y.keeps K' hLM hLb
  replace K := K.trans (K'.mono hMB)
  clear W K' c36
  have W := W'
  clear W'
  have y3 : w7.cell? ⟨L, 3, none⟩ = some (.bool false) := Y.cell 3
  have W9 : Wr w7 b M (bodyL x) := by
    have e : bodyL x = _ := rfl
    simp only [bodyL, pT, pD, pM, pA, hk]
    simpa [hT, hD, hM, hA, List.append_assoc] using W
  clear W
  go_wp2
  go_end0
  exact ⟨rfl, ⟨M, by have := HBW.out; omega, W9⟩, by have := HBW.out; rw [← this]; exact K⟩
set_option maxHeartbeats 4000000 in
theorem wslip_gone {w : World} {b : Nat} (hb : At w b 122 #[.pointer none, .slice none 0 0]) (x : Sp) (hk : x.k = 5) (hc : Can x) :
    Calls Tryz.prog 73 #[.pointer (some ⟨b, 0, none⟩), .agg (slV x)] w fun e w' => e = .returned (.tuple #[]) ∧ (∃ M, w.heap.size ≤ M ∧ Wr w' b M (bodyL x)) ∧ Keeps b w.heap.size w w' := by
  have hd := hc.dig
  obtain ⟨hn1, hn2⟩ := hc.names_le
  have hty := hc.ty
  have hbl := hb.lt
  have BODY := Lib.hid (show bodyL x = bodyL x from rfl)
  have e0 : (slV x)[0]? = some (.int .i64 5) := by rw [sl0, hk]
  have X := At.new w 39 (slV x)
  have F : Below w.heap.size w (w.alloc (.cells (slV x) 39)) := (Below.refl _ _).alloc (Nat.le_refl _) _
  have hb := hb.alloc (.cells (slV x) 39)
  go_enter Tryz.func73, Tryz.ntmps73
  go_upto_region 1 with (fail)
  obtain ⟨B, hB⟩ : ∃ B, B = w.heap.size := ⟨_, rfl⟩
  rw [← hB] at X F ⊢
  generalize w.alloc (.cells (slV x) 39) = w1 at X F hb ⊢
  have c0 : w1.cell? ⟨B, 0, none⟩ = some (.int .i64 5) := (X.cell 0).trans e0
  have HBW := Lib.hid hB
  clear hB e0
  go_wp2_with fail
  refine (layout_any 5 _).mono ?_
  rintro e w2 ⟨rfl, G⟩
  replace X := X.old G
  replace hb := hb.old G
  replace F := F.trans (G.mono (by have := F.size; have := HBW.out; omega))
  have F0 := F
  clear G c0
  obtain ⟨w3, S3, Y, G, Z3⟩ := keep (P := Tryz.prog) (ty := 146) w2 #[.bool false, .bool false, .bool false, .bool false] (layV 5) 146 (by kernel_rfl) rfl (lay_one 5)
  have X2 := X
  replace X := X.old G
  replace hb := hb.old G
  replace F := F.trans (G.mono (by have := F.size; have := HBW.out; omega))
  clear G X2
  have hBL : B < w3.heap.size ∧ b < w3.heap.size ∧ w2.heap.size < w3.heap.size ∧ B ≠ b := ⟨X.lt, hb.lt, Y.lt, by have := HBW.out; omega⟩
  have hLb : w2.heap.size ≠ b := by have := F0.size; have := HBW.out; omega
  have hMB : B ≤ w3.heap.size := by omega
  have W := fresh_wr hb hBL.2.1 (Nat.le_refl _)
  go_upto_region 2 with (refine wpl_store S3 rfl rfl rfl rfl rfl ?_)
  have K := Keeps.of_below (b := b) F
  clear F F0 S3 Z3 hb
  generalize w3.heap.size = M at hBL hMB W ⊢
  generalize w2.heap.size = L at hBL Y hLb ⊢
  obtain ⟨hBM, hbM, hLM, hBb⟩ := hBL
  have c0 : w3.cell? ⟨B, 0, none⟩ = some (.int .i64 5) := (X.cell 0).trans (by rw [sl0, hk])
  go_wp2_with fail
  refine (wnumber_any W 5 1 (by decide) (by simp only [List.length_append, List.length_nil, be_len, txt_len, hd.len]; omega)).mono ?_
  rintro e w4 ⟨rfl, W', K'⟩
  replace X := X.keeps K' hBM hBb
  replace Y := Y.keeps K' hLM hLb
  replace K := K.trans (K'.mono hMB)
  clear W K' c0
  have W := W'
  clear W'
  have y0 : w4.cell? ⟨L, 0, none⟩ = some (.bool false) := Y.cell 0
  have y1 : w4.cell? ⟨L, 1, none⟩ = some (.bool true) := Y.cell 1
  go_upto_region 7 with (fail)
  clear y0 y1
  refine wp_region_held (S := fun _ => True) (by kernel_rfl) ?_
  change wpAnyH _ _ _ _ _ _ _ _ w4.drew
  replace W := W.drew
  replace X := X.drew
  replace Y := Y.drew
  replace K := K.trans (Keeps.of_below ((Below.refl B _).drew))
  generalize w4.drew = wd at W X Y K ⊢
  refine held_take 0 (.pointer (some ⟨b, 0, none⟩)) rfl (by kernel_rfl) (by kernel_rfl) (by kernel_rfl) (fun _ _ _ h => h) (Or.inl ⟨by rfl, fun x j => by go_simp⟩) trivial (fun K hK => ?_)
  go_simp
  refine hK _ _ ?_
  clear hK K
  refine held_take 1 (.pointer (some ⟨b, 0, none⟩)) rfl (by kernel_rfl) (by kernel_rfl) (by kernel_rfl) (fun _ _ _ h => h) (Or.inl ⟨by rfl, fun x j => by go_simp⟩) trivial (fun K hK => ?_)
  go_simp
  refine hK _ _ ?_
  clear hK K
  refine held_take 2 (.pointer (some ⟨b, 0, none⟩)) rfl (by kernel_rfl) (by kernel_rfl) (by kernel_rfl) (fun _ _ _ h => h) (Or.inl ⟨by rfl, fun x j => by go_simp⟩) trivial (fun K hK => ?_)
  go_simp
  refine hK _ _ ?_
  clear hK K
  refine held_take 3 (.pointer (some ⟨B, 3, none⟩)) rfl (by kernel_rfl) (by kernel_rfl) (by kernel_rfl) (fun _ _ _ h => h) (Or.inl ⟨by rfl, fun x j => by go_simp⟩) trivial (fun K hK => ?_)
  go_simp
  refine hK _ _ ?_
  clear hK K
  refine held_take 4 (.slice (some ⟨B, 3, none⟩) 32 32) rfl (by kernel_rfl) (by kernel_rfl) (by kernel_rfl) (fun _ _ _ h => h) (Or.inl ⟨by rfl, fun x j => by go_simp⟩) trivial (fun K hK => ?_)
  go_simp
  refine hK _ _ ?_
  clear hK K
  refine held_one 5 (by kernel_rfl) (fun K hK => wpOp_in rfl rfl ?_)
  go_simp
  rw [show (32 : Nat) = x.dig.length from hd.len.symm]
  refine (bytes_any W (a := ⟨B, 3, none⟩) (q := x.dig) hd.lt hBb hBM (dig_cells X hd) (by simp only [List.length_append, List.length_nil, be_len, txt_len, hd.len]; omega)).mono ?_
  rintro e wz ⟨rfl, W', K'⟩
  refine hK _ _ trivial ?_
  clear hK K
  refine wpAnyH_done (by kernel_rfl) ?_ _
  replace X := X.keeps K' hBM hBb
  replace Y := Y.keeps K' hLM hLb
  replace K := K.trans (K'.mono hMB)
  clear W K'
  have W := W'
  clear W'
  generalize wz = w5 at W X Y K ⊢
  have y2 : w5.cell? ⟨L, 2, none⟩ = some (.bool false) := Y.cell 2
  have y3 : w5.cell? ⟨L, 3, none⟩ = some (.bool false) := Y.cell 3
  have W9 : Wr w5 b M (bodyL x) := by
    have e : bodyL x = _ := rfl
    simp only [bodyL, pT, pD, pM, pA, hk]
    simpa [hT, hD, hM, hA, List.append_assoc] using W
  clear W
  go_wp2
  go_end0
  exact ⟨rfl, ⟨M, by have := HBW.out; omega, W9⟩, by have := HBW.out; rw [← this]; exact K⟩
set_option maxHeartbeats 4000000 in
theorem wslip_touch {w : World} {b : Nat} (hb : At w b 122 #[.pointer none, .slice none 0 0]) (x : Sp) (hk : x.k = 6) (hc : Can x) :
    Calls Tryz.prog 73 #[.pointer (some ⟨b, 0, none⟩), .agg (slV x)] w fun e w' => e = .returned (.tuple #[]) ∧ (∃ M, w.heap.size ≤ M ∧ Wr w' b M (bodyL x)) ∧ Keeps b w.heap.size w w' := by
  have hd := hc.dig
  obtain ⟨hn1, hn2⟩ := hc.names_le
  have hty := hc.ty
  have hbl := hb.lt
  have BODY := Lib.hid (show bodyL x = bodyL x from rfl)
  have e0 : (slV x)[0]? = some (.int .i64 6) := by rw [sl0, hk]
  have X := At.new w 39 (slV x)
  have F : Below w.heap.size w (w.alloc (.cells (slV x) 39)) := (Below.refl _ _).alloc (Nat.le_refl _) _
  have hb := hb.alloc (.cells (slV x) 39)
  go_enter Tryz.func73, Tryz.ntmps73
  go_upto_region 1 with (fail)
  obtain ⟨B, hB⟩ : ∃ B, B = w.heap.size := ⟨_, rfl⟩
  rw [← hB] at X F ⊢
  generalize w.alloc (.cells (slV x) 39) = w1 at X F hb ⊢
  have c0 : w1.cell? ⟨B, 0, none⟩ = some (.int .i64 6) := (X.cell 0).trans e0
  have HBW := Lib.hid hB
  clear hB e0
  go_wp2_with fail
  refine (layout_any 6 _).mono ?_
  rintro e w2 ⟨rfl, G⟩
  replace X := X.old G
  replace hb := hb.old G
  replace F := F.trans (G.mono (by have := F.size; have := HBW.out; omega))
  have F0 := F
  clear G c0
  obtain ⟨w3, S3, Y, G, Z3⟩ := keep (P := Tryz.prog) (ty := 146) w2 #[.bool false, .bool false, .bool false, .bool false] (layV 6) 146 (by kernel_rfl) rfl (lay_one 6)
  have X2 := X
  replace X := X.old G
  replace hb := hb.old G
  replace F := F.trans (G.mono (by have := F.size; have := HBW.out; omega))
  clear G X2
  have hBL : B < w3.heap.size ∧ b < w3.heap.size ∧ w2.heap.size < w3.heap.size ∧ B ≠ b := ⟨X.lt, hb.lt, Y.lt, by have := HBW.out; omega⟩
  have hLb : w2.heap.size ≠ b := by have := F0.size; have := HBW.out; omega
  have hMB : B ≤ w3.heap.size := by omega
  have W := fresh_wr hb hBL.2.1 (Nat.le_refl _)
  go_upto_region 2 with (refine wpl_store S3 rfl rfl rfl rfl rfl ?_)
  have K := Keeps.of_below (b := b) F
  clear F F0 S3 Z3 hb
  generalize w3.heap.size = M at hBL hMB W ⊢
  generalize w2.heap.size = L at hBL Y hLb ⊢
  obtain ⟨hBM, hbM, hLM, hBb⟩ := hBL
  have c0 : w3.cell? ⟨B, 0, none⟩ = some (.int .i64 6) := (X.cell 0).trans (by rw [sl0, hk])
  go_wp2_with fail
  refine (wnumber_any W 6 1 (by decide) (by simp only [List.length_append, List.length_nil, be_len, txt_len, hd.len]; omega)).mono ?_
  rintro e w4 ⟨rfl, W', K'⟩
  replace X := X.keeps K' hBM hBb
  replace Y := Y.keeps K' hLM hLb
  replace K := K.trans (K'.mono hMB)
  clear W K' c0
  have W := W'
  clear W'
  have y0 : w4.cell? ⟨L, 0, none⟩ = some (.bool false) := Y.cell 0
  have y1 : w4.cell? ⟨L, 1, none⟩ = some (.bool true) := Y.cell 1
  go_upto_region 7 with (fail)
  clear y0 y1
  refine wp_region_held (S := fun _ => True) (by kernel_rfl) ?_
  change wpAnyH _ _ _ _ _ _ _ _ w4.drew
  replace W := W.drew
  replace X := X.drew
  replace Y := Y.drew
  replace K := K.trans (Keeps.of_below ((Below.refl B _).drew))
  generalize w4.drew = wd at W X Y K ⊢
  refine held_take 0 (.pointer (some ⟨b, 0, none⟩)) rfl (by kernel_rfl) (by kernel_rfl) (by kernel_rfl) (fun _ _ _ h => h) (Or.inl ⟨by rfl, fun x j => by go_simp⟩) trivial (fun K hK => ?_)
  go_simp
  refine hK _ _ ?_
  clear hK K
  refine held_take 1 (.pointer (some ⟨b, 0, none⟩)) rfl (by kernel_rfl) (by kernel_rfl) (by kernel_rfl) (fun _ _ _ h => h) (Or.inl ⟨by rfl, fun x j => by go_simp⟩) trivial (fun K hK => ?_)
  go_simp
  refine hK _ _ ?_
  clear hK K
  refine held_take 2 (.pointer (some ⟨b, 0, none⟩)) rfl (by kernel_rfl) (by kernel_rfl) (by kernel_rfl) (fun _ _ _ h => h) (Or.inl ⟨by rfl, fun x j => by go_simp⟩) trivial (fun K hK => ?_)
  go_simp
  refine hK _ _ ?_
  clear hK K
  refine held_take 3 (.pointer (some ⟨B, 3, none⟩)) rfl (by kernel_rfl) (by kernel_rfl) (by kernel_rfl) (fun _ _ _ h => h) (Or.inl ⟨by rfl, fun x j => by go_simp⟩) trivial (fun K hK => ?_)
  go_simp
  refine hK _ _ ?_
  clear hK K
  refine held_take 4 (.slice (some ⟨B, 3, none⟩) 32 32) rfl (by kernel_rfl) (by kernel_rfl) (by kernel_rfl) (fun _ _ _ h => h) (Or.inl ⟨by rfl, fun x j => by go_simp⟩) trivial (fun K hK => ?_)
  go_simp
  refine hK _ _ ?_
  clear hK K
  refine held_one 5 (by kernel_rfl) (fun K hK => wpOp_in rfl rfl ?_)
  go_simp
  rw [show (32 : Nat) = x.dig.length from hd.len.symm]
  refine (bytes_any W (a := ⟨B, 3, none⟩) (q := x.dig) hd.lt hBb hBM (dig_cells X hd) (by simp only [List.length_append, List.length_nil, be_len, txt_len, hd.len]; omega)).mono ?_
  rintro e wz ⟨rfl, W', K'⟩
  refine hK _ _ trivial ?_
  clear hK K
  refine wpAnyH_done (by kernel_rfl) ?_ _
  replace X := X.keeps K' hBM hBb
  replace Y := Y.keeps K' hLM hLb
  replace K := K.trans (K'.mono hMB)
  clear W K'
  have W := W'
  clear W'
  generalize wz = w5 at W X Y K ⊢
  have y2 : w5.cell? ⟨L, 2, none⟩ = some (.bool false) := Y.cell 2
  have y3 : w5.cell? ⟨L, 3, none⟩ = some (.bool false) := Y.cell 3
  have W9 : Wr w5 b M (bodyL x) := by
    have e : bodyL x = _ := rfl
    simp only [bodyL, pT, pD, pM, pA, hk]
    simpa [hT, hD, hM, hA, List.append_assoc] using W
  clear W
  go_wp2
  go_end0
  exact ⟨rfl, ⟨M, by have := HBW.out; omega, W9⟩, by have := HBW.out; rw [← this]; exact K⟩
theorem wslip_any {w : World} {b : Nat} (hb : At w b 122 #[.pointer none, .slice none 0 0]) (x : Sp) (hc : Can x) :
    Calls Tryz.prog 73 #[.pointer (some ⟨b, 0, none⟩), .agg (slV x)] w fun e w' => e = .returned (.tuple #[]) ∧ (∃ M, w.heap.size ≤ M ∧ Wr w' b M (bodyL x)) ∧ Keeps b w.heap.size w w' := by
  have h := hc.k
  have : x.k = 1 ∨ x.k = 2 ∨ x.k = 3 ∨ x.k = 4 ∨ x.k = 5 ∨ x.k = 6 := by omega
  rcases this with e | e | e | e | e | e
  · exact wslip_bind hb x e hc
  · exact wslip_miss hb x e hc
  · exact wslip_drop hb x e hc
  · exact wslip_blob hb x e hc
  · exact wslip_gone hb x e hc
  · exact wslip_touch hb x e hc
end Go.Proofs.YtdmgobffhpgjlaaGreat.Sl
