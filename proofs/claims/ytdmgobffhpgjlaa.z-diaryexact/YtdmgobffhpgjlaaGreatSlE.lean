/-
  The document's examples of layer 8: awake answers true; great.
  The document's own answers: has, text, number, Framed, Body.
-/
import Derived.Test.YtdmgobffhpgjlaaGreatSlAll
section
namespace Go.Proofs.YtdmgobffhpgjlaaGreat.Sl
open Go.RowKit Go.PlainAid Go.Proofs.YtdmgobffhpgjlaaGreat.Cr
set_option linter.unusedVariables false
set_option maxRecDepth 20000
set_option linter.unusedSimpArgs false

def d7 : List Nat := 7 :: List.replicate 31 0
def x0 : Sp := ⟨5, none8, none8, d7, none8, 0, 0⟩
end Go.Proofs.YtdmgobffhpgjlaaGreat.Sl
end

section
namespace Go.Proofs.YtdmgobffhpgjlaaGreat.Sl
open Go.RowKit Go.PlainAid Go.Proofs.YtdmgobffhpgjlaaGreat.Cr
set_option linter.unusedVariables false
set_option maxRecDepth 20000
set_option linter.unusedSimpArgs false

set_option maxHeartbeats 1000000 in
theorem rhas_any (k : Int) (w : World) (hk : 1 ≤ k ∧ k ≤ 6) :
    Calls Tryz.prog 79 #[.int .i64 k] w fun e w' => e = .returned (.agg (layV k)) ∧ Below w.heap.size w w' := by
  have S1 : Stores Tryz.prog (w.alloc (.cells #[.bool false, .bool false, .bool false, .bool false] 129)) 129 w.heap.size 0 (layV k) ((w.alloc (.cells #[.bool false, .bool false, .bool false, .bool false] 129)).setRow w.heap.size (layV k)) := (At.new w _ _).stores (by kernel_rfl) rfl (lay_one k)
  have A1 := (At.new w 129 #[.bool false, .bool false, .bool false, .bool false]).row (layV k)
  have F1 : Below w.heap.size w ((w.alloc (.cells #[.bool false, .bool false, .bool false, .bool false] 129)).setRow w.heap.size (layV k)) := below_row ((Below.refl _ _).alloc (Nat.le_refl _) _) (Nat.le_refl _)
  generalize (w.alloc (.cells #[.bool false, .bool false, .bool false, .bool false] 129)).setRow w.heap.size (layV k) = X at S1 A1 F1
  have R : ∀ f : Func, f = Tryz.f79 → ∀ tmps : Array Value, tmps.getD 2 undef = .pointer (some ⟨w.heap.size, 0, none⟩) → (results f tmps).run Tryz.prog X = .ok (.agg (layV k)) X := fun f hf tmps ht => by
    subst hf
    exact results_cell_row Tryz.results79 _ _ w.heap.size 129 (layV k) (0, 0) _ ht A1.heap Tryz.underlying129 rfl (by kernel_rfl)
  have HR := Lib.hid R
  clear R A1
  have : k = 1 ∨ k = 2 ∨ k = 3 ∨ k = 4 ∨ k = 5 ∨ k = 6 := by omega
  clear hk
  rcases this with rfl | rfl | rfl | rfl | rfl | rfl
  all_goals
    go_enter Tryz.func79, Tryz.ntmps79
    go_wp2_with (refine wpl_store S1 rfl rfl rfl rfl rfl ?_)
    exact bodyPost_ret (HR.out _ rfl _ rfl) rfl ⟨rfl, F1⟩
theorem conv_bytes (w : World) (l : List Nat) (h : ∀ x ∈ l, x < 256) : (convert 87 9 (.slice (some ⟨w.heap.size, 0, none⟩) l.length l.length)).run Tryz.prog (w.alloc (.cells (dV l).toArray 5)) = .ok (.string (strOf l)) (w.alloc (.cells (dV l).toArray 5)) := by
  have := run_convert_bytes_back (P := Tryz.prog) (w.alloc (.cells (dV l).toArray 5)) 87 9 5 ⟨w.heap.size, 0, none⟩ l.length (l.map UInt8.ofNat) Tryz.underlying87 Tryz.underlying5 Tryz.underlying9 (fun j hj => by
    rw [add_at, Nat.zero_add, (At.new w _ _).cell]
    have hj' : j < l.length := by simpa using hj
    have := h l[j] (List.getElem_mem hj')
    simp [dV, hj', Nat.mod_eq_of_lt this])
  rw [List.length_map] at this
  exact this
theorem txt_text (s : ByteArray) : strOf (be 1 (s.size : Int)) ++ s = strOf (txt s) := by
  unfold txt
  rw [strOf_append, strOf_bl]
set_option maxHeartbeats 1000000 in
theorem rtext_ref (s : ByteArray) (w : World) (hs : s.size ≤ 1000000) :
    Calls Tryz.prog 82 #[.string s] w fun e w' => e = .returned (.string (strOf (txt s))) ∧ Below w.heap.size w w' := by
  rw [← txt_text]
  obtain ⟨b, hb, hb2⟩ : ∃ b : Nat, be 1 (s.size : Int) = [b] ∧ (s.size : Int) % 256 = (b : Int) := ⟨s.size % 256, by simp only [be, Int.pow_zero, Int.ediv_one]; congr 1, by omega⟩
  have cv := conv_bytes w [b] (by rw [← hb]; exact be_lt _ _)
  rw [hb]
  have cv2 : (convert 87 9 (.slice (some ⟨w.heap.size, 0, none⟩) 1 1)).run Tryz.prog (w.alloc (.cells #[.int .u8 (b : Int)] 5)) = .ok (.string (strOf [b])) (w.alloc (.cells #[.int .u8 (b : Int)] 5)) := cv
  have F : Below w.heap.size w (w.alloc (.cells #[.int .u8 (b : Int)] 5)) := (Below.refl _ _).alloc (Nat.le_refl _) _
  have z1 : (strOf [b]).size = 1 := by rw [strOf_size]; rfl
  clear cv hb
  go_enter Tryz.func82, Tryz.ntmps82
  go_wp2
  go_ret
  exact ⟨rfl, F⟩
set_option maxHeartbeats 2000000 in
theorem rnumber_ref (n : Int) (w : World) (h0 : 0 ≤ n) (h1 : n < 9223372036854775808) :
    Calls Tryz.prog 83 #[.int .i64 n] w fun e w' => e = .returned (.string (strOf (be 8 n))) ∧ Below w.heap.size w w' := by
  obtain ⟨i0, hi, hz0, hz1, hz2⟩ := info_parts infoB
  have own0 := World.ownsRow_made (base := w.heap.size) (e := 5) (size := 1) w #[] 0 (Nat.le_refl _) (Nat.zero_le _) rfl
  have bel0 : Below w.heap.size w (w.alloc (.cells #[] 5)) := (Below.refl _ _).alloc (Nat.le_refl _) _
  have hu : IntKind.u64.wrap n = n := IntWalk.u64_in _ (by omega)
  go_enter Tryz.func83, Tryz.ntmps83
  go_wp2
  go_loopw [3, 4] (fun v i wr => ∃ k : Nat, ∃ a : Int, k ≤ 8 ∧ a = 7 - (k : Int) ∧ i = .int .i64 a ∧ wr.ownsRow w.heap.size 5 1 v k (dV ((be 8 n).take k)) ∧ Below w.heap.size w wr) (fun _ i _ => ((intOf i) + 1).toNat)
  case atStart => exact ⟨0, 7, by decide, rfl, rfl, own0, bel0⟩
  case round =>
    clear own0 bel0
    obtain ⟨k, a, hk, ha, rfl, own, bel⟩ := hrel
    by_cases hlt : 0 ≤ a
    · obtain ⟨t, rfl⟩ : ∃ t : Nat, a = (t : Int) := ⟨a.toNat, by omega⟩
      have BS := Lib.hid (be_snoc 8 n k (by omega))
      have e1 : 8 - 1 - k = t := by omega
      rw [e1] at BS
      have HA := Lib.hid ha
      clear ha e1
      have ht : t < 8 := by have := HA.out; omega
      have e8 := shr8 n t
      have hc8 : (n / 256 ^ t % 256).toNat < 256 := by omega
      generalize (n / 256 ^ t % 256).toNat = c at BS e8 hc8
      have f2 : (0 : Int) ≤ 8 * (t : Int) := by omega
      have f3 : (8 * (t : Int)).toNat = 8 * t := by omega
      have f4 : min (8 * t) 64 = 8 * t := by omega
      have bN : w.heap.size ≤ wr.heap.size := bel.size
      go_upto_region 4 with (at_builtin; refine wpList_append_own _ rfl _ _ 87 rfl w.heap.size 5 i0 (.int .u8 0) 1 1 Tryz.underlying87 hi hz0 hz1 hz2 rfl (by decide) _ _ _ rfl (own.alloc _) ⟨wr.heap.size, 0, none⟩ 1 1 [.int .u8 (c : Int)] rfl rfl ?c1 (by simp [Value.oneCell']) ?c3 ?c4 ?c5 ?_)
      case c1 =>
        intro j u hj
        match j, hj with
        | 0, hj => simp at hj; subst hj; simp [Addr.add]
      case c3 => unfold maxLen; omega
      case c4 => omega
      case c5 => simp; omega
      intro v' w4 own4 hgrow _
      have own5 : w4.ownsRow w.heap.size 5 1 v' (k + 1) (dV ((be 8 n).take (k + 1))) := by
        rw [BS.out]
        simpa [dV] using own4
      have bel5 := (bel.alloc bel.size (.cells #[.int .u8 (c : Int)] 5)).grown hgrow (by simp; omega) (fun j hj => (own.lt j hj).1)
      clear own4 own bel hgrow
      go_wp2
      go_roundw
      case rel => exact ⟨k + 1, _, by have := HA.out; omega, by have := HA.out; omega, rfl, own5, bel5⟩
      case measure => simp [intOf]
    · have hkm : k = 8 := by omega
      have hlt : a < 0 := by omega
      subst hkm
      rw [List.take_of_length_le (by rw [be_len]; exact Nat.le_refl _)] at own
      obtain ⟨g, cap, cur, hv, hg, ht⟩ : ∃ g cap cur, u3 = .slice (some ⟨g, 0, none⟩) 8 cap ∧ wr.heap[g]? = some (.cells cur 5 (0, 0)) ∧ cur.toList.take 8 = dV (be 8 n) := by
        rcases own.2 with ⟨_, h0⟩ | ⟨g, cap, cur, hv, _, hg, _, _, _, ht⟩
        · omega
        · exact ⟨g, cap, cur, hv, hg, by simpa using ht⟩
      subst hv
      have cv := run_convert_bytes_back (P := Tryz.prog) wr 87 9 5 ⟨g, 0, none⟩ cap ((be 8 n).map UInt8.ofNat) Tryz.underlying87 Tryz.underlying5 Tryz.underlying9 (fun j hj => by
        have hj' : j < (be 8 n).length := by simpa using hj
        have h2 := own.cells (g := g) rfl j (.int .u8 ((be 8 n)[j] : Int)) (by simp [dV, hj'])
        rw [h2]
        have := be_lt 8 n _ (List.getElem_mem hj')
        simp [Nat.mod_eq_of_lt this])
      rw [List.length_map, be_len] at cv
      have cv2 : (convert 87 9 (.slice (some ⟨g, 0, none⟩) 8 cap)).run Tryz.prog wr = .ok (.string (strOf (be 8 n))) wr := cv
      clear cv ha hg ht own
      go_wp2
      go_ret
      exact ⟨rfl, bel⟩
set_option maxHeartbeats 1000000 in
theorem framed_any (s : ByteArray) (w : World) (hs : s.size ≤ 1000000) :
    Calls Tryz.prog 54 #[.string s] w fun e w' => e = .returned (.string (strOf (recL (bl s)))) ∧ Below w.heap.size w w' := by
  have RT := rec_text (bl s)
  rw [strOf_bl, bl_len] at RT
  have hM := mor_lt (n := 0) (l := be 2 (s.size : Int) ++ bl s) (by decide) (fun y hy => (List.mem_append.1 hy).elim (be_lt _ _ y) (bl_lt s y))
  obtain ⟨b0, b1, hb, h0, h1⟩ : ∃ b0 b1 : Nat, be 2 (s.size : Int) = [b0, b1] ∧ (s.size : Int) / 256 % 256 = (b0 : Int) ∧ (s.size : Int) % 256 = (b1 : Int) := ⟨s.size / 256 % 256, s.size % 256, by
    simp only [be, Int.pow_zero, Int.ediv_one, Int.pow_one]
    congr 1, by omega, by omega⟩
  have hblt : ∀ x ∈ [b0, b1], x < 256 := by rw [← hb]; exact be_lt _ _
  have cv := conv_bytes w [b0, b1] hblt
  have cv2 : (convert 87 9 (.slice (some ⟨w.heap.size, 0, none⟩) 2 2)).run Tryz.prog (w.alloc (.cells #[.int .u8 (b0 : Int), .int .u8 (b1 : Int)] 5)) = .ok (.string (strOf [b0, b1])) (w.alloc (.cells #[.int .u8 (b0 : Int), .int .u8 (b1 : Int)] 5)) := cv
  have F : Below w.heap.size w (w.alloc (.cells #[.int .u8 (b0 : Int), .int .u8 (b1 : Int)] 5)) := (Below.refl _ _).alloc (Nat.le_refl _) _
  rw [hb] at RT hM
  have hbb : mor 0 (bl (strOf [b0, b1] ++ s)) = mor 0 ([b0, b1] ++ bl s) := by rw [bl_append, bl_strOf hblt]
  generalize mor 0 ([b0, b1] ++ bl s) = M at RT hM hbb
  have z1 : (strOf [b0, b1]).size = 2 := by rw [strOf_size]; rfl
  have RTH := Lib.hid RT
  have HBB := Lib.hid hbb
  have HM := Lib.hid hM
  have z2 : (strOf [b0, b1] ++ s).size ≤ 9223372036854775807 := by rw [ByteArray.size_append, z1]; omega
  have Z2 := Lib.hid z2
  clear cv hb RT hbb hM hblt z2
  go_enter Tryz.func54, Tryz.ntmps54
  go_upto_region 2 with (fail)
  generalize w.alloc (.cells #[.int .u8 (b0 : Int), .int .u8 (b1 : Int)] 5) = w1 at F ⊢
  clear cv2
  go_wp2_with fail
  refine (rmore_any 0 (strOf [b0, b1] ++ s) _ (by decide) Z2.out).mono ?_
  rintro e v2 ⟨rfl, rfl⟩
  rw [HBB.out]
  go_wp2_with fail
  refine (rtail_any _ _ HM.out).mono ?_
  rintro e w3 ⟨rfl, G⟩
  replace F := F.trans (G.mono F.size)
  clear G
  have z3 := tl_size M
  go_wp2
  go_ret
  exact ⟨by rw [← RTH.out]; rfl, F⟩
/-- what Body holds in memory -/
structure Bo (w0 w : World) (B L : Nat) (x : Sp) : Prop where
  sx : At w B 39 (slV x)
  ly : At w L 129 (layV x.k)
  bel : Below w0.heap.size w0 w
theorem Bo.below {w0 w w' : World} {B L : Nat} {x : Sp} (h : Bo w0 w B L x) (hb : Below w.heap.size w w') : Bo w0 w' B L x := ⟨h.sx.old hb, h.ly.old hb, h.bel.trans (hb.mono h.bel.size)⟩
theorem Bo.drew {w0 w : World} {B L : Nat} {x : Sp} (h : Bo w0 w B L x) : Bo w0 w.drew B L x := ⟨h.sx.drew, h.ly.drew, h.bel.drew⟩
theorem conv_dig {w : World} {B : Nat} {x : Sp} (h : At w B 39 (slV x)) (hd : Dig x.dig) : (convert 87 9 (.slice (some ⟨B, 3, none⟩) 32 32)).run Tryz.prog w = .ok (.string (strOf x.dig)) w := by
  have := run_convert_bytes_back (P := Tryz.prog) w 87 9 5 ⟨B, 3, none⟩ 32 (x.dig.map UInt8.ofNat) Tryz.underlying87 Tryz.underlying5 Tryz.underlying9 (fun j hj => by
    have hj' : j < x.dig.length := by simpa using hj
    have h2 := dig_cells h hd j (.int .u8 (x.dig[j] : Int)) (by simp [dV, hj'])
    rw [h2]
    have := hd.lt _ (List.getElem_mem hj')
    simp [Nat.mod_eq_of_lt this])
  rw [List.length_map, hd.len] at this
  exact this
set_option maxHeartbeats 4000000 in
theorem rbody_bind (x : Sp) (w : World) (hk : x.k = 1) (hc : Can x) :
    Calls Tryz.prog 55 #[.agg (slV x)] w fun e w' => e = .returned (.string (strOf (bodyL x))) ∧ Below w.heap.size w w' := by
  have hd := hc.dig
  obtain ⟨hn1, hn2⟩ := hc.names_le
  have hty := hc.ty
  have hsz := hc.sz
  have htm := hc.tm
  obtain ⟨s0, hs0⟩ : ∃ s, s = strOf (be 1 1) := ⟨_, rfl⟩
  have z0 : s0.size ≤ 1000 := by rw [hs0, strOf_size]; simp only [be_len, txt_len, hd.len]; omega
  obtain ⟨s1, hs1⟩ : ∃ s, s = strOf (txt x.repo) := ⟨_, rfl⟩
  have z1 : s1.size ≤ 1000 := by rw [hs1, strOf_size]; simp only [be_len, txt_len, hd.len]; omega
  obtain ⟨s2, hs2⟩ : ∃ s, s = strOf (txt x.tag) := ⟨_, rfl⟩
  have z2 : s2.size ≤ 1000 := by rw [hs2, strOf_size]; simp only [be_len, txt_len, hd.len]; omega
  obtain ⟨s3, hs3⟩ : ∃ s, s = strOf (x.dig) := ⟨_, rfl⟩
  have z3 : s3.size ≤ 1000 := by rw [hs3, strOf_size]; simp only [be_len, txt_len, hd.len]; omega
  obtain ⟨s4, hs4⟩ : ∃ s, s = strOf (txt x.ty) := ⟨_, rfl⟩
  have z4 : s4.size ≤ 1000 := by rw [hs4, strOf_size]; simp only [be_len, txt_len, hd.len]; omega
  obtain ⟨s5, hs5⟩ : ∃ s, s = strOf (be 8 x.sz) := ⟨_, rfl⟩
  have z5 : s5.size ≤ 1000 := by rw [hs5, strOf_size]; simp only [be_len, txt_len, hd.len]; omega
  obtain ⟨s6, hs6⟩ : ∃ s, s = strOf (be 8 x.tm) := ⟨_, rfl⟩
  have z6 : s6.size ≤ 1000 := by rw [hs6, strOf_size]; simp only [be_len, txt_len, hd.len]; omega
  obtain ⟨r, hr⟩ : ∃ r, r = strOf (bodyL x) := ⟨_, rfl⟩
  have HR : Hid (r = s0 ++ s1 ++ s2 ++ s3 ++ s4 ++ s5 ++ s6) := Lib.hid (by
    rw [hr, hs0, hs1, hs2, hs3, hs4, hs5, hs6]
    unfold bodyL pT pD pM pA
    rw [hk]
    simp only [show hT 1 = true from rfl, show hD 1 = true from rfl, show hM 1 = true from rfl, show hA 1 = true from rfl, if_true, Bool.false_eq_true, if_false, List.append_nil, strOf_append, ByteArray.append_assoc])
  rw [← hr]
  clear hr
  have HS0 := Lib.hid hs0
  have HS1 := Lib.hid hs1
  have HS2 := Lib.hid hs2
  have HS3 := Lib.hid hs3
  have HS4 := Lib.hid hs4
  have HS5 := Lib.hid hs5
  have HS6 := Lib.hid hs6
  clear hs0 hs1 hs2 hs3 hs4 hs5 hs6
  have X := At.new w 39 (slV x)
  have F : Below w.heap.size w (w.alloc (.cells (slV x) 39)) := (Below.refl _ _).alloc (Nat.le_refl _) _
  go_enter Tryz.func55, Tryz.ntmps55
  go_upto_region 1 with (fail)
  obtain ⟨B, hB⟩ : ∃ B, B = w.heap.size := ⟨_, rfl⟩
  rw [← hB] at X ⊢
  clear hB
  generalize w.alloc (.cells (slV x) 39) = w1 at X F ⊢
  have c0 : w1.cell? ⟨B, 0, none⟩ = some (.int .i64 1) := (X.cell 0).trans (by rw [sl0, hk])
  have HK := Lib.hid hk
  clear hk
  go_wp2_with fail
  refine (rhas_any 1 _ (by decide)).mono ?_
  rintro e w2 ⟨rfl, G1⟩
  replace X := X.old G1
  replace F := F.trans (G1.mono F.size)
  clear G1 c0
  obtain ⟨w3, S3, Y, G2, Z3⟩ := keep (P := Tryz.prog) (ty := 129) w2 #[.bool false, .bool false, .bool false, .bool false] (layV 1) 129 (by kernel_rfl) rfl (lay_one 1)
  replace X := X.old G2
  replace F := F.trans (G2.mono F.size)
  clear G2 Z3
  go_upto_region 2 with (refine wpl_store S3 rfl rfl rfl rfl rfl ?_)
  clear S3
  generalize w2.heap.size = L at Y ⊢
  have G : Bo w w3 B L x := ⟨X, by rw [HK.out]; exact Y, F⟩
  clear X F Y
  have c0 : w3.cell? ⟨B, 0, none⟩ = some (.int .i64 1) := (G.sx.cell 0).trans (by rw [sl0, HK.out])
  have cv2 : (convert 87 9 (.slice (some ⟨w3.heap.size, 0, none⟩) 1 1)).run Tryz.prog (w3.alloc (.cells #[.int .u8 1] 5)) = .ok (.string s0) (w3.alloc (.cells #[.int .u8 1] 5)) := by rw [HS0.out]; exact conv_bytes w3 [1] (by decide)
  go_upto_region 3 with (fail)
  replace G := G.below ((Below.refl _ _).alloc (Nat.le_refl _) (.cells #[.int .u8 1] 5))
  generalize w3.alloc (.cells #[.int .u8 1] 5) = w4 at G cv2 ⊢
  clear cv2 c0
  have y0 : w4.cell? ⟨L, 0, none⟩ = some (.bool true) := by rw [G.ly.cell, HK.out]; rfl
  have zc2 : (s0 ++ s1).size ≤ 4000 := by simp only [ByteArray.size_append]; omega
  have zc3 : (s0 ++ s1 ++ s2).size ≤ 6000 := by simp only [ByteArray.size_append]; omega
  go_upto_region 4 with (fail)
  clear y0
  refine wp_region_held (S := fun z => Bo w z B L x) (by kernel_rfl) ?_
  change wpAnyH _ _ _ _ _ _ _ _ w4.drew
  replace G := G.drew
  generalize w4.drew = wd at G ⊢
  refine held_take 0 (.string (s0)) rfl (by kernel_rfl) (by kernel_rfl) (by kernel_rfl) (fun _ _ _ h => h) (Or.inl ⟨by rfl, fun x j => by go_simp⟩) G (fun K hK => ?_)
  go_simp
  refine hK _ _ ?_
  clear hK K
  refine held_take 1 (.pointer (some ⟨B, 1, none⟩)) rfl (by kernel_rfl) (by kernel_rfl) (by kernel_rfl) (fun _ _ _ h => h) (Or.inl ⟨by rfl, fun x j => by go_simp⟩) G (fun K hK => ?_)
  go_simp
  refine hK _ _ ?_
  clear hK K
  refine held_take 2 (.string x.repo) rfl (by kernel_rfl) (by kernel_rfl) (by kernel_rfl) (fun _ _ _ h => h) (Or.inl ⟨by rfl, fun x j => by have cj := ((j.sx.cell 1).trans (sl1 _)); go_simp⟩) G (fun K hK => ?_)
  go_simp
  refine hK _ _ ?_
  clear hK K
  refine held_take 5 (.pointer (some ⟨B, 2, none⟩)) rfl (by kernel_rfl) (by kernel_rfl) (by kernel_rfl) (fun _ _ _ h => h) (Or.inl ⟨by rfl, fun x j => by go_simp⟩) G (fun K hK => ?_)
  go_simp
  refine hK _ _ ?_
  clear hK K
  refine held_take 6 (.string x.tag) rfl (by kernel_rfl) (by kernel_rfl) (by kernel_rfl) (fun _ _ _ h => h) (Or.inl ⟨by rfl, fun x j => by have cj := ((j.sx.cell 2).trans (sl2 _)); go_simp⟩) G (fun K hK => ?_)
  go_simp
  refine hK _ _ ?_
  clear hK K
  refine held_one 3 (by kernel_rfl) (fun K hK => wpOp_in rfl rfl ?_)
  go_simp
  refine (rtext_ref x.repo _ (by omega)).mono ?_
  rintro e wa ⟨rfl, G1⟩
  replace G := G.below G1
  clear G1
  rw [← HS1.out]
  refine hK _ _ G ?_
  clear hK K
  refine held_take 4 (.string (s0 ++ s1)) rfl (by kernel_rfl) (by kernel_rfl) (by kernel_rfl) (fun _ _ _ h => h) (Or.inl ⟨by rfl, fun x j => by go_simp; (try simp only [ByteArray.size_append]); omega⟩) G (fun K hK => ?_)
  go_simp
  refine hK _ _ ?_
  clear hK K
  refine held_one 7 (by kernel_rfl) (fun K hK => wpOp_in rfl rfl ?_)
  go_simp
  refine (rtext_ref x.tag _ (by omega)).mono ?_
  rintro e wb ⟨rfl, G1⟩
  replace G := G.below G1
  clear G1
  rw [← HS2.out]
  refine hK _ _ G ?_
  clear hK K
  refine held_take 8 (.string (s0 ++ s1 ++ s2)) rfl (by kernel_rfl) (by kernel_rfl) (by kernel_rfl) (fun _ _ _ h => h) (Or.inl ⟨by rfl, fun x j => by go_simp; (try simp only [ByteArray.size_append]); omega⟩) G (fun K hK => ?_)
  go_simp
  refine hK _ _ ?_
  clear hK K
  refine held_take 9 (.string (s0 ++ s1 ++ s2)) rfl (by kernel_rfl) (by kernel_rfl) (by kernel_rfl) (fun _ _ _ h => h) (Or.inl ⟨by rfl, fun x j => by go_simp⟩) G (fun K hK => ?_)
  go_simp
  refine hK _ _ ?_
  clear hK K
  refine wpAnyH_done (by kernel_rfl) ?_ _
  clear zc2 zc3
  generalize wb = w5 at G ⊢
  have y1 : w5.cell? ⟨L, 1, none⟩ = some (.bool true) := by rw [G.ly.cell, HK.out]; rfl
  have zc3 : (s0 ++ s1 ++ s2).size ≤ 6000 := by simp only [ByteArray.size_append]; omega
  have zc4 : (s0 ++ s1 ++ s2 ++ s3).size ≤ 8000 := by simp only [ByteArray.size_append]; omega
  have cvd := conv_dig G.sx hd
  rw [← HS3.out] at cvd
  go_upto_region 7 with (fail)
  clear cvd y1 zc3 zc4
  have y2 : w5.cell? ⟨L, 2, none⟩ = some (.bool true) := by rw [G.ly.cell, HK.out]; rfl
  have zc4 : (s0 ++ s1 ++ s2 ++ s3).size ≤ 8000 := by simp only [ByteArray.size_append]; omega
  have zc5 : (s0 ++ s1 ++ s2 ++ s3 ++ s4).size ≤ 10000 := by simp only [ByteArray.size_append]; omega
  have zc6 : (s0 ++ s1 ++ s2 ++ s3 ++ s4 ++ s5).size ≤ 12000 := by simp only [ByteArray.size_append]; omega
  go_upto_region 8 with (fail)
  clear y2
  refine wp_region_held (S := fun z => Bo w z B L x) (by kernel_rfl) ?_
  change wpAnyH _ _ _ _ _ _ _ _ w5.drew
  replace G := G.drew
  generalize w5.drew = wd at G ⊢
  refine held_take 0 (.string (s0 ++ s1 ++ s2 ++ s3)) rfl (by kernel_rfl) (by kernel_rfl) (by kernel_rfl) (fun _ _ _ h => h) (Or.inl ⟨by rfl, fun x j => by go_simp⟩) G (fun K hK => ?_)
  go_simp
  refine hK _ _ ?_
  clear hK K
  refine held_take 1 (.pointer (some ⟨B, 35, none⟩)) rfl (by kernel_rfl) (by kernel_rfl) (by kernel_rfl) (fun _ _ _ h => h) (Or.inl ⟨by rfl, fun x j => by go_simp⟩) G (fun K hK => ?_)
  go_simp
  refine hK _ _ ?_
  clear hK K
  refine held_take 2 (.string x.ty) rfl (by kernel_rfl) (by kernel_rfl) (by kernel_rfl) (fun _ _ _ h => h) (Or.inl ⟨by rfl, fun x j => by have cj := ((j.sx.cell 35).trans (sl35 hd.len)); go_simp⟩) G (fun K hK => ?_)
  go_simp
  refine hK _ _ ?_
  clear hK K
  refine held_take 5 (.pointer (some ⟨B, 36, none⟩)) rfl (by kernel_rfl) (by kernel_rfl) (by kernel_rfl) (fun _ _ _ h => h) (Or.inl ⟨by rfl, fun x j => by go_simp⟩) G (fun K hK => ?_)
  go_simp
  refine hK _ _ ?_
  clear hK K
  refine held_take 6 (.int .i64 x.sz) rfl (by kernel_rfl) (by kernel_rfl) (by kernel_rfl) (fun _ _ _ h => h) (Or.inl ⟨by rfl, fun x j => by have cj := ((j.sx.cell 36).trans (sl36 hd.len)); go_simp⟩) G (fun K hK => ?_)
  go_simp
  refine hK _ _ ?_
  clear hK K
  refine held_one 3 (by kernel_rfl) (fun K hK => wpOp_in rfl rfl ?_)
  go_simp
  refine (rtext_ref x.ty _ (by omega)).mono ?_
  rintro e wa ⟨rfl, G1⟩
  replace G := G.below G1
  clear G1
  rw [← HS4.out]
  refine hK _ _ G ?_
  clear hK K
  refine held_take 4 (.string (s0 ++ s1 ++ s2 ++ s3 ++ s4)) rfl (by kernel_rfl) (by kernel_rfl) (by kernel_rfl) (fun _ _ _ h => h) (Or.inl ⟨by rfl, fun x j => by go_simp; (try simp only [ByteArray.size_append]); omega⟩) G (fun K hK => ?_)
  go_simp
  refine hK _ _ ?_
  clear hK K
  refine held_one 7 (by kernel_rfl) (fun K hK => wpOp_in rfl rfl ?_)
  go_simp
  refine (rnumber_ref x.sz _ (by omega) (by omega)).mono ?_
  rintro e wb ⟨rfl, G1⟩
  replace G := G.below G1
  clear G1
  rw [← HS5.out]
  refine hK _ _ G ?_
  clear hK K
  refine held_take 8 (.string (s0 ++ s1 ++ s2 ++ s3 ++ s4 ++ s5)) rfl (by kernel_rfl) (by kernel_rfl) (by kernel_rfl) (fun _ _ _ h => h) (Or.inl ⟨by rfl, fun x j => by go_simp; (try simp only [ByteArray.size_append]); omega⟩) G (fun K hK => ?_)
  go_simp
  refine hK _ _ ?_
  clear hK K
  refine held_take 9 (.string (s0 ++ s1 ++ s2 ++ s3 ++ s4 ++ s5)) rfl (by kernel_rfl) (by kernel_rfl) (by kernel_rfl) (fun _ _ _ h => h) (Or.inl ⟨by rfl, fun x j => by go_simp⟩) G (fun K hK => ?_)
  go_simp
  refine hK _ _ ?_
  clear hK K
  refine wpAnyH_done (by kernel_rfl) ?_ _
  clear zc4 zc5 zc6
  generalize wb = w6 at G ⊢
  have y3 : w6.cell? ⟨L, 3, none⟩ = some (.bool true) := by rw [G.ly.cell, HK.out]; rfl
  have zc6 : (s0 ++ s1 ++ s2 ++ s3 ++ s4 ++ s5).size ≤ 12000 := by simp only [ByteArray.size_append]; omega
  have zc7 : (s0 ++ s1 ++ s2 ++ s3 ++ s4 ++ s5 ++ s6).size ≤ 14000 := by simp only [ByteArray.size_append]; omega
  have c37 : w6.cell? ⟨B, 37, none⟩ = some (.int .i64 x.tm) := (G.sx.cell 37).trans (sl37 hd.len)
  go_wp2_with fail
  refine (rnumber_ref x.tm _ (by omega) (by omega)).mono ?_
  rintro e w7 ⟨rfl, G1⟩
  replace G := G.below G1
  rw [← HS6.out]
  clear G1 c37 y3
  go_wp2
  go_ret
  exact ⟨by rw [HR.out]; rfl, G.bel⟩
set_option maxHeartbeats 4000000 in
theorem rbody_miss (x : Sp) (w : World) (hk : x.k = 2) (hc : Can x) :
    Calls Tryz.prog 55 #[.agg (slV x)] w fun e w' => e = .returned (.string (strOf (bodyL x))) ∧ Below w.heap.size w w' := by
  have hd := hc.dig
  obtain ⟨hn1, hn2⟩ := hc.names_le
  have hty := hc.ty
  have hsz := hc.sz
  have htm := hc.tm
  obtain ⟨s0, hs0⟩ : ∃ s, s = strOf (be 1 2) := ⟨_, rfl⟩
  have z0 : s0.size ≤ 1000 := by rw [hs0, strOf_size]; simp only [be_len, txt_len, hd.len]; omega
  obtain ⟨s1, hs1⟩ : ∃ s, s = strOf (txt x.repo) := ⟨_, rfl⟩
  have z1 : s1.size ≤ 1000 := by rw [hs1, strOf_size]; simp only [be_len, txt_len, hd.len]; omega
  obtain ⟨s2, hs2⟩ : ∃ s, s = strOf (txt x.tag) := ⟨_, rfl⟩
  have z2 : s2.size ≤ 1000 := by rw [hs2, strOf_size]; simp only [be_len, txt_len, hd.len]; omega
  obtain ⟨s3, hs3⟩ : ∃ s, s = strOf (be 8 x.tm) := ⟨_, rfl⟩
  have z3 : s3.size ≤ 1000 := by rw [hs3, strOf_size]; simp only [be_len, txt_len, hd.len]; omega
  obtain ⟨r, hr⟩ : ∃ r, r = strOf (bodyL x) := ⟨_, rfl⟩
  have HR : Hid (r = s0 ++ s1 ++ s2 ++ s3) := Lib.hid (by
    rw [hr, hs0, hs1, hs2, hs3]
    unfold bodyL pT pD pM pA
    rw [hk]
    simp only [show hT 2 = true from rfl, show hD 2 = false from rfl, show hM 2 = false from rfl, show hA 2 = true from rfl, if_true, Bool.false_eq_true, if_false, List.append_nil, strOf_append, ByteArray.append_assoc])
  rw [← hr]
  clear hr
  have HS0 := Lib.hid hs0
  have HS1 := Lib.hid hs1
  have HS2 := Lib.hid hs2
  have HS3 := Lib.hid hs3
  clear hs0 hs1 hs2 hs3
  have X := At.new w 39 (slV x)
  have F : Below w.heap.size w (w.alloc (.cells (slV x) 39)) := (Below.refl _ _).alloc (Nat.le_refl _) _
  go_enter Tryz.func55, Tryz.ntmps55
  go_upto_region 1 with (fail)
  obtain ⟨B, hB⟩ : ∃ B, B = w.heap.size := ⟨_, rfl⟩
  rw [← hB] at X ⊢
  clear hB
  generalize w.alloc (.cells (slV x) 39) = w1 at X F ⊢
  have c0 : w1.cell? ⟨B, 0, none⟩ = some (.int .i64 2) := (X.cell 0).trans (by rw [sl0, hk])
  have HK := Lib.hid hk
  clear hk
  go_wp2_with fail
  refine (rhas_any 2 _ (by decide)).mono ?_
  rintro e w2 ⟨rfl, G1⟩
  replace X := X.old G1
  replace F := F.trans (G1.mono F.size)
  clear G1 c0
  obtain ⟨w3, S3, Y, G2, Z3⟩ := keep (P := Tryz.prog) (ty := 129) w2 #[.bool false, .bool false, .bool false, .bool false] (layV 2) 129 (by kernel_rfl) rfl (lay_one 2)
  replace X := X.old G2
  replace F := F.trans (G2.mono F.size)
  clear G2 Z3
  go_upto_region 2 with (refine wpl_store S3 rfl rfl rfl rfl rfl ?_)
  clear S3
  generalize w2.heap.size = L at Y ⊢
  have G : Bo w w3 B L x := ⟨X, by rw [HK.out]; exact Y, F⟩
  clear X F Y
  have c0 : w3.cell? ⟨B, 0, none⟩ = some (.int .i64 2) := (G.sx.cell 0).trans (by rw [sl0, HK.out])
  have cv2 : (convert 87 9 (.slice (some ⟨w3.heap.size, 0, none⟩) 1 1)).run Tryz.prog (w3.alloc (.cells #[.int .u8 2] 5)) = .ok (.string s0) (w3.alloc (.cells #[.int .u8 2] 5)) := by rw [HS0.out]; exact conv_bytes w3 [2] (by decide)
  go_upto_region 3 with (fail)
  replace G := G.below ((Below.refl _ _).alloc (Nat.le_refl _) (.cells #[.int .u8 2] 5))
  generalize w3.alloc (.cells #[.int .u8 2] 5) = w4 at G cv2 ⊢
  clear cv2 c0
  have y0 : w4.cell? ⟨L, 0, none⟩ = some (.bool true) := by rw [G.ly.cell, HK.out]; rfl
  have zc2 : (s0 ++ s1).size ≤ 4000 := by simp only [ByteArray.size_append]; omega
  have zc3 : (s0 ++ s1 ++ s2).size ≤ 6000 := by simp only [ByteArray.size_append]; omega
  go_upto_region 4 with (fail)
  clear y0
  refine wp_region_held (S := fun z => Bo w z B L x) (by kernel_rfl) ?_
  change wpAnyH _ _ _ _ _ _ _ _ w4.drew
  replace G := G.drew
  generalize w4.drew = wd at G ⊢
  refine held_take 0 (.string (s0)) rfl (by kernel_rfl) (by kernel_rfl) (by kernel_rfl) (fun _ _ _ h => h) (Or.inl ⟨by rfl, fun x j => by go_simp⟩) G (fun K hK => ?_)
  go_simp
  refine hK _ _ ?_
  clear hK K
  refine held_take 1 (.pointer (some ⟨B, 1, none⟩)) rfl (by kernel_rfl) (by kernel_rfl) (by kernel_rfl) (fun _ _ _ h => h) (Or.inl ⟨by rfl, fun x j => by go_simp⟩) G (fun K hK => ?_)
  go_simp
  refine hK _ _ ?_
  clear hK K
  refine held_take 2 (.string x.repo) rfl (by kernel_rfl) (by kernel_rfl) (by kernel_rfl) (fun _ _ _ h => h) (Or.inl ⟨by rfl, fun x j => by have cj := ((j.sx.cell 1).trans (sl1 _)); go_simp⟩) G (fun K hK => ?_)
  go_simp
  refine hK _ _ ?_
  clear hK K
  refine held_take 5 (.pointer (some ⟨B, 2, none⟩)) rfl (by kernel_rfl) (by kernel_rfl) (by kernel_rfl) (fun _ _ _ h => h) (Or.inl ⟨by rfl, fun x j => by go_simp⟩) G (fun K hK => ?_)
  go_simp
  refine hK _ _ ?_
  clear hK K
  refine held_take 6 (.string x.tag) rfl (by kernel_rfl) (by kernel_rfl) (by kernel_rfl) (fun _ _ _ h => h) (Or.inl ⟨by rfl, fun x j => by have cj := ((j.sx.cell 2).trans (sl2 _)); go_simp⟩) G (fun K hK => ?_)
  go_simp
  refine hK _ _ ?_
  clear hK K
  refine held_one 3 (by kernel_rfl) (fun K hK => wpOp_in rfl rfl ?_)
  go_simp
  refine (rtext_ref x.repo _ (by omega)).mono ?_
  rintro e wa ⟨rfl, G1⟩
  replace G := G.below G1
  clear G1
  rw [← HS1.out]
  refine hK _ _ G ?_
  clear hK K
  refine held_take 4 (.string (s0 ++ s1)) rfl (by kernel_rfl) (by kernel_rfl) (by kernel_rfl) (fun _ _ _ h => h) (Or.inl ⟨by rfl, fun x j => by go_simp; (try simp only [ByteArray.size_append]); omega⟩) G (fun K hK => ?_)
  go_simp
  refine hK _ _ ?_
  clear hK K
  refine held_one 7 (by kernel_rfl) (fun K hK => wpOp_in rfl rfl ?_)
  go_simp
  refine (rtext_ref x.tag _ (by omega)).mono ?_
  rintro e wb ⟨rfl, G1⟩
  replace G := G.below G1
  clear G1
  rw [← HS2.out]
  refine hK _ _ G ?_
  clear hK K
  refine held_take 8 (.string (s0 ++ s1 ++ s2)) rfl (by kernel_rfl) (by kernel_rfl) (by kernel_rfl) (fun _ _ _ h => h) (Or.inl ⟨by rfl, fun x j => by go_simp; (try simp only [ByteArray.size_append]); omega⟩) G (fun K hK => ?_)
  go_simp
  refine hK _ _ ?_
  clear hK K
  refine held_take 9 (.string (s0 ++ s1 ++ s2)) rfl (by kernel_rfl) (by kernel_rfl) (by kernel_rfl) (fun _ _ _ h => h) (Or.inl ⟨by rfl, fun x j => by go_simp⟩) G (fun K hK => ?_)
  go_simp
  refine hK _ _ ?_
  clear hK K
  refine wpAnyH_done (by kernel_rfl) ?_ _
  clear zc2 zc3
  generalize wb = w5 at G ⊢
  have y1 : w5.cell? ⟨L, 1, none⟩ = some (.bool false) := by rw [G.ly.cell, HK.out]; rfl
  have y2 : w5.cell? ⟨L, 2, none⟩ = some (.bool false) := by rw [G.ly.cell, HK.out]; rfl
  have y3 : w5.cell? ⟨L, 3, none⟩ = some (.bool true) := by rw [G.ly.cell, HK.out]; rfl
  have zc3 : (s0 ++ s1 ++ s2).size ≤ 6000 := by simp only [ByteArray.size_append]; omega
  have zc4 : (s0 ++ s1 ++ s2 ++ s3).size ≤ 8000 := by simp only [ByteArray.size_append]; omega
  have c37 : w5.cell? ⟨B, 37, none⟩ = some (.int .i64 x.tm) := (G.sx.cell 37).trans (sl37 hd.len)
  go_wp2_with fail
  refine (rnumber_ref x.tm _ (by omega) (by omega)).mono ?_
  rintro e w6 ⟨rfl, G1⟩
  replace G := G.below G1
  rw [← HS3.out]
  clear G1 c37 y1 y2 y3
  go_wp2
  go_ret
  exact ⟨by rw [HR.out]; rfl, G.bel⟩
set_option maxHeartbeats 4000000 in
theorem rbody_drop (x : Sp) (w : World) (hk : x.k = 3) (hc : Can x) :
    Calls Tryz.prog 55 #[.agg (slV x)] w fun e w' => e = .returned (.string (strOf (bodyL x))) ∧ Below w.heap.size w w' := by
  have hd := hc.dig
  obtain ⟨hn1, hn2⟩ := hc.names_le
  have hty := hc.ty
  have hsz := hc.sz
  have htm := hc.tm
  obtain ⟨s0, hs0⟩ : ∃ s, s = strOf (be 1 3) := ⟨_, rfl⟩
  have z0 : s0.size ≤ 1000 := by rw [hs0, strOf_size]; simp only [be_len, txt_len, hd.len]; omega
  obtain ⟨s1, hs1⟩ : ∃ s, s = strOf (txt x.repo) := ⟨_, rfl⟩
  have z1 : s1.size ≤ 1000 := by rw [hs1, strOf_size]; simp only [be_len, txt_len, hd.len]; omega
  obtain ⟨s2, hs2⟩ : ∃ s, s = strOf (txt x.tag) := ⟨_, rfl⟩
  have z2 : s2.size ≤ 1000 := by rw [hs2, strOf_size]; simp only [be_len, txt_len, hd.len]; omega
  obtain ⟨r, hr⟩ : ∃ r, r = strOf (bodyL x) := ⟨_, rfl⟩
  have HR : Hid (r = s0 ++ s1 ++ s2) := Lib.hid (by
    rw [hr, hs0, hs1, hs2]
    unfold bodyL pT pD pM pA
    rw [hk]
    simp only [show hT 3 = true from rfl, show hD 3 = false from rfl, show hM 3 = false from rfl, show hA 3 = false from rfl, if_true, Bool.false_eq_true, if_false, List.append_nil, strOf_append, ByteArray.append_assoc])
  rw [← hr]
  clear hr
  have HS0 := Lib.hid hs0
  have HS1 := Lib.hid hs1
  have HS2 := Lib.hid hs2
  clear hs0 hs1 hs2
  have X := At.new w 39 (slV x)
  have F : Below w.heap.size w (w.alloc (.cells (slV x) 39)) := (Below.refl _ _).alloc (Nat.le_refl _) _
  go_enter Tryz.func55, Tryz.ntmps55
  go_upto_region 1 with (fail)
  obtain ⟨B, hB⟩ : ∃ B, B = w.heap.size := ⟨_, rfl⟩
  rw [← hB] at X ⊢
  clear hB
  generalize w.alloc (.cells (slV x) 39) = w1 at X F ⊢
  have c0 : w1.cell? ⟨B, 0, none⟩ = some (.int .i64 3) := (X.cell 0).trans (by rw [sl0, hk])
  have HK := Lib.hid hk
  clear hk
  go_wp2_with fail
  refine (rhas_any 3 _ (by decide)).mono ?_
  rintro e w2 ⟨rfl, G1⟩
  replace X := X.old G1
  replace F := F.trans (G1.mono F.size)
  clear G1 c0
  obtain ⟨w3, S3, Y, G2, Z3⟩ := keep (P := Tryz.prog) (ty := 129) w2 #[.bool false, .bool false, .bool false, .bool false] (layV 3) 129 (by kernel_rfl) rfl (lay_one 3)
  replace X := X.old G2
  replace F := F.trans (G2.mono F.size)
  clear G2 Z3
  go_upto_region 2 with (refine wpl_store S3 rfl rfl rfl rfl rfl ?_)
  clear S3
  generalize w2.heap.size = L at Y ⊢
  have G : Bo w w3 B L x := ⟨X, by rw [HK.out]; exact Y, F⟩
  clear X F Y
  have c0 : w3.cell? ⟨B, 0, none⟩ = some (.int .i64 3) := (G.sx.cell 0).trans (by rw [sl0, HK.out])
  have cv2 : (convert 87 9 (.slice (some ⟨w3.heap.size, 0, none⟩) 1 1)).run Tryz.prog (w3.alloc (.cells #[.int .u8 3] 5)) = .ok (.string s0) (w3.alloc (.cells #[.int .u8 3] 5)) := by rw [HS0.out]; exact conv_bytes w3 [3] (by decide)
  go_upto_region 3 with (fail)
  replace G := G.below ((Below.refl _ _).alloc (Nat.le_refl _) (.cells #[.int .u8 3] 5))
  generalize w3.alloc (.cells #[.int .u8 3] 5) = w4 at G cv2 ⊢
  clear cv2 c0
  have y0 : w4.cell? ⟨L, 0, none⟩ = some (.bool true) := by rw [G.ly.cell, HK.out]; rfl
  have zc2 : (s0 ++ s1).size ≤ 4000 := by simp only [ByteArray.size_append]; omega
  have zc3 : (s0 ++ s1 ++ s2).size ≤ 6000 := by simp only [ByteArray.size_append]; omega
  go_upto_region 4 with (fail)
  clear y0
  refine wp_region_held (S := fun z => Bo w z B L x) (by kernel_rfl) ?_
  change wpAnyH _ _ _ _ _ _ _ _ w4.drew
  replace G := G.drew
  generalize w4.drew = wd at G ⊢
  refine held_take 0 (.string (s0)) rfl (by kernel_rfl) (by kernel_rfl) (by kernel_rfl) (fun _ _ _ h => h) (Or.inl ⟨by rfl, fun x j => by go_simp⟩) G (fun K hK => ?_)
  go_simp
  refine hK _ _ ?_
  clear hK K
  refine held_take 1 (.pointer (some ⟨B, 1, none⟩)) rfl (by kernel_rfl) (by kernel_rfl) (by kernel_rfl) (fun _ _ _ h => h) (Or.inl ⟨by rfl, fun x j => by go_simp⟩) G (fun K hK => ?_)
  go_simp
  refine hK _ _ ?_
  clear hK K
  refine held_take 2 (.string x.repo) rfl (by kernel_rfl) (by kernel_rfl) (by kernel_rfl) (fun _ _ _ h => h) (Or.inl ⟨by rfl, fun x j => by have cj := ((j.sx.cell 1).trans (sl1 _)); go_simp⟩) G (fun K hK => ?_)
  go_simp
  refine hK _ _ ?_
  clear hK K
  refine held_take 5 (.pointer (some ⟨B, 2, none⟩)) rfl (by kernel_rfl) (by kernel_rfl) (by kernel_rfl) (fun _ _ _ h => h) (Or.inl ⟨by rfl, fun x j => by go_simp⟩) G (fun K hK => ?_)
  go_simp
  refine hK _ _ ?_
  clear hK K
  refine held_take 6 (.string x.tag) rfl (by kernel_rfl) (by kernel_rfl) (by kernel_rfl) (fun _ _ _ h => h) (Or.inl ⟨by rfl, fun x j => by have cj := ((j.sx.cell 2).trans (sl2 _)); go_simp⟩) G (fun K hK => ?_)
  go_simp
  refine hK _ _ ?_
  clear hK K
  refine held_one 3 (by kernel_rfl) (fun K hK => wpOp_in rfl rfl ?_)
  go_simp
  refine (rtext_ref x.repo _ (by omega)).mono ?_
  rintro e wa ⟨rfl, G1⟩
  replace G := G.below G1
  clear G1
  rw [← HS1.out]
  refine hK _ _ G ?_
  clear hK K
  refine held_take 4 (.string (s0 ++ s1)) rfl (by kernel_rfl) (by kernel_rfl) (by kernel_rfl) (fun _ _ _ h => h) (Or.inl ⟨by rfl, fun x j => by go_simp; (try simp only [ByteArray.size_append]); omega⟩) G (fun K hK => ?_)
  go_simp
  refine hK _ _ ?_
  clear hK K
  refine held_one 7 (by kernel_rfl) (fun K hK => wpOp_in rfl rfl ?_)
  go_simp
  refine (rtext_ref x.tag _ (by omega)).mono ?_
  rintro e wb ⟨rfl, G1⟩
  replace G := G.below G1
  clear G1
  rw [← HS2.out]
  refine hK _ _ G ?_
  clear hK K
  refine held_take 8 (.string (s0 ++ s1 ++ s2)) rfl (by kernel_rfl) (by kernel_rfl) (by kernel_rfl) (fun _ _ _ h => h) (Or.inl ⟨by rfl, fun x j => by go_simp; (try simp only [ByteArray.size_append]); omega⟩) G (fun K hK => ?_)
  go_simp
  refine hK _ _ ?_
  clear hK K
  refine held_take 9 (.string (s0 ++ s1 ++ s2)) rfl (by kernel_rfl) (by kernel_rfl) (by kernel_rfl) (fun _ _ _ h => h) (Or.inl ⟨by rfl, fun x j => by go_simp⟩) G (fun K hK => ?_)
  go_simp
  refine hK _ _ ?_
  clear hK K
  refine wpAnyH_done (by kernel_rfl) ?_ _
  clear zc2 zc3
  generalize wb = w5 at G ⊢
  have y1 : w5.cell? ⟨L, 1, none⟩ = some (.bool false) := by rw [G.ly.cell, HK.out]; rfl
  have y2 : w5.cell? ⟨L, 2, none⟩ = some (.bool false) := by rw [G.ly.cell, HK.out]; rfl
  have y3 : w5.cell? ⟨L, 3, none⟩ = some (.bool false) := by rw [G.ly.cell, HK.out]; rfl
  go_wp2
  go_ret
  exact ⟨by rw [HR.out]; rfl, G.bel⟩
set_option maxHeartbeats 4000000 in
theorem rbody_blob (x : Sp) (w : World) (hk : x.k = 4) (hc : Can x) :
    Calls Tryz.prog 55 #[.agg (slV x)] w fun e w' => e = .returned (.string (strOf (bodyL x))) ∧ Below w.heap.size w w' := by
  have hd := hc.dig
  obtain ⟨hn1, hn2⟩ := hc.names_le
  have hty := hc.ty
  have hsz := hc.sz
  have htm := hc.tm
  obtain ⟨s0, hs0⟩ : ∃ s, s = strOf (be 1 4) := ⟨_, rfl⟩
  have z0 : s0.size ≤ 1000 := by rw [hs0, strOf_size]; simp only [be_len, txt_len, hd.len]; omega
  obtain ⟨s1, hs1⟩ : ∃ s, s = strOf (x.dig) := ⟨_, rfl⟩
  have z1 : s1.size ≤ 1000 := by rw [hs1, strOf_size]; simp only [be_len, txt_len, hd.len]; omega
  obtain ⟨s2, hs2⟩ : ∃ s, s = strOf (txt x.ty) := ⟨_, rfl⟩
  have z2 : s2.size ≤ 1000 := by rw [hs2, strOf_size]; simp only [be_len, txt_len, hd.len]; omega
  obtain ⟨s3, hs3⟩ : ∃ s, s = strOf (be 8 x.sz) := ⟨_, rfl⟩
  have z3 : s3.size ≤ 1000 := by rw [hs3, strOf_size]; simp only [be_len, txt_len, hd.len]; omega
  obtain ⟨r, hr⟩ : ∃ r, r = strOf (bodyL x) := ⟨_, rfl⟩
  have HR : Hid (r = s0 ++ s1 ++ s2 ++ s3) := Lib.hid (by
    rw [hr, hs0, hs1, hs2, hs3]
    unfold bodyL pT pD pM pA
    rw [hk]
    simp only [show hT 4 = false from rfl, show hD 4 = true from rfl, show hM 4 = true from rfl, show hA 4 = false from rfl, if_true, Bool.false_eq_true, if_false, List.append_nil, strOf_append, ByteArray.append_assoc])
  rw [← hr]
  clear hr
  have HS0 := Lib.hid hs0
  have HS1 := Lib.hid hs1
  have HS2 := Lib.hid hs2
  have HS3 := Lib.hid hs3
  clear hs0 hs1 hs2 hs3
  have X := At.new w 39 (slV x)
  have F : Below w.heap.size w (w.alloc (.cells (slV x) 39)) := (Below.refl _ _).alloc (Nat.le_refl _) _
  go_enter Tryz.func55, Tryz.ntmps55
  go_upto_region 1 with (fail)
  obtain ⟨B, hB⟩ : ∃ B, B = w.heap.size := ⟨_, rfl⟩
  rw [← hB] at X ⊢
  clear hB
  generalize w.alloc (.cells (slV x) 39) = w1 at X F ⊢
  have c0 : w1.cell? ⟨B, 0, none⟩ = some (.int .i64 4) := (X.cell 0).trans (by rw [sl0, hk])
  have HK := Lib.hid hk
  clear hk
  go_wp2_with fail
  refine (rhas_any 4 _ (by decide)).mono ?_
  rintro e w2 ⟨rfl, G1⟩
  replace X := X.old G1
  replace F := F.trans (G1.mono F.size)
  clear G1 c0
  obtain ⟨w3, S3, Y, G2, Z3⟩ := keep (P := Tryz.prog) (ty := 129) w2 #[.bool false, .bool false, .bool false, .bool false] (layV 4) 129 (by kernel_rfl) rfl (lay_one 4)
  replace X := X.old G2
  replace F := F.trans (G2.mono F.size)
  clear G2 Z3
  go_upto_region 2 with (refine wpl_store S3 rfl rfl rfl rfl rfl ?_)
  clear S3
  generalize w2.heap.size = L at Y ⊢
  have G : Bo w w3 B L x := ⟨X, by rw [HK.out]; exact Y, F⟩
  clear X F Y
  have c0 : w3.cell? ⟨B, 0, none⟩ = some (.int .i64 4) := (G.sx.cell 0).trans (by rw [sl0, HK.out])
  have cv2 : (convert 87 9 (.slice (some ⟨w3.heap.size, 0, none⟩) 1 1)).run Tryz.prog (w3.alloc (.cells #[.int .u8 4] 5)) = .ok (.string s0) (w3.alloc (.cells #[.int .u8 4] 5)) := by rw [HS0.out]; exact conv_bytes w3 [4] (by decide)
  go_upto_region 3 with (fail)
  replace G := G.below ((Below.refl _ _).alloc (Nat.le_refl _) (.cells #[.int .u8 4] 5))
  generalize w3.alloc (.cells #[.int .u8 4] 5) = w4 at G cv2 ⊢
  clear cv2 c0
  have y0 : w4.cell? ⟨L, 0, none⟩ = some (.bool false) := by rw [G.ly.cell, HK.out]; rfl
  have y1 : w4.cell? ⟨L, 1, none⟩ = some (.bool true) := by rw [G.ly.cell, HK.out]; rfl
  have zc2 : (s0 ++ s1).size ≤ 4000 := by simp only [ByteArray.size_append]; omega
  have cvd := conv_dig G.sx hd
  rw [← HS1.out] at cvd
  go_upto_region 7 with (fail)
  clear cvd y0 y1 zc2
  have y2 : w4.cell? ⟨L, 2, none⟩ = some (.bool true) := by rw [G.ly.cell, HK.out]; rfl
  have zc2 : (s0 ++ s1).size ≤ 4000 := by simp only [ByteArray.size_append]; omega
  have zc3 : (s0 ++ s1 ++ s2).size ≤ 6000 := by simp only [ByteArray.size_append]; omega
  have zc4 : (s0 ++ s1 ++ s2 ++ s3).size ≤ 8000 := by simp only [ByteArray.size_append]; omega
  go_upto_region 8 with (fail)
  clear y2
  refine wp_region_held (S := fun z => Bo w z B L x) (by kernel_rfl) ?_
  change wpAnyH _ _ _ _ _ _ _ _ w4.drew
  replace G := G.drew
  generalize w4.drew = wd at G ⊢
  refine held_take 0 (.string (s0 ++ s1)) rfl (by kernel_rfl) (by kernel_rfl) (by kernel_rfl) (fun _ _ _ h => h) (Or.inl ⟨by rfl, fun x j => by go_simp⟩) G (fun K hK => ?_)
  go_simp
  refine hK _ _ ?_
  clear hK K
  refine held_take 1 (.pointer (some ⟨B, 35, none⟩)) rfl (by kernel_rfl) (by kernel_rfl) (by kernel_rfl) (fun _ _ _ h => h) (Or.inl ⟨by rfl, fun x j => by go_simp⟩) G (fun K hK => ?_)
  go_simp
  refine hK _ _ ?_
  clear hK K
  refine held_take 2 (.string x.ty) rfl (by kernel_rfl) (by kernel_rfl) (by kernel_rfl) (fun _ _ _ h => h) (Or.inl ⟨by rfl, fun x j => by have cj := ((j.sx.cell 35).trans (sl35 hd.len)); go_simp⟩) G (fun K hK => ?_)
  go_simp
  refine hK _ _ ?_
  clear hK K
  refine held_take 5 (.pointer (some ⟨B, 36, none⟩)) rfl (by kernel_rfl) (by kernel_rfl) (by kernel_rfl) (fun _ _ _ h => h) (Or.inl ⟨by rfl, fun x j => by go_simp⟩) G (fun K hK => ?_)
  go_simp
  refine hK _ _ ?_
  clear hK K
  refine held_take 6 (.int .i64 x.sz) rfl (by kernel_rfl) (by kernel_rfl) (by kernel_rfl) (fun _ _ _ h => h) (Or.inl ⟨by rfl, fun x j => by have cj := ((j.sx.cell 36).trans (sl36 hd.len)); go_simp⟩) G (fun K hK => ?_)
  go_simp
  refine hK _ _ ?_
  clear hK K
  refine held_one 3 (by kernel_rfl) (fun K hK => wpOp_in rfl rfl ?_)
  go_simp
  refine (rtext_ref x.ty _ (by omega)).mono ?_
  rintro e wa ⟨rfl, G1⟩
  replace G := G.below G1
  clear G1
  rw [← HS2.out]
  refine hK _ _ G ?_
  clear hK K
  refine held_take 4 (.string (s0 ++ s1 ++ s2)) rfl (by kernel_rfl) (by kernel_rfl) (by kernel_rfl) (fun _ _ _ h => h) (Or.inl ⟨by rfl, fun x j => by go_simp; (try simp only [ByteArray.size_append]); omega⟩) G (fun K hK => ?_)
  go_simp
  refine hK _ _ ?_
  clear hK K
  refine held_one 7 (by kernel_rfl) (fun K hK => wpOp_in rfl rfl ?_)
  go_simp
  refine (rnumber_ref x.sz _ (by omega) (by omega)).mono ?_
  rintro e wb ⟨rfl, G1⟩
  replace G := G.below G1
  clear G1
  rw [← HS3.out]
  refine hK _ _ G ?_
  clear hK K
  refine held_take 8 (.string (s0 ++ s1 ++ s2 ++ s3)) rfl (by kernel_rfl) (by kernel_rfl) (by kernel_rfl) (fun _ _ _ h => h) (Or.inl ⟨by rfl, fun x j => by go_simp; (try simp only [ByteArray.size_append]); omega⟩) G (fun K hK => ?_)
  go_simp
  refine hK _ _ ?_
  clear hK K
  refine held_take 9 (.string (s0 ++ s1 ++ s2 ++ s3)) rfl (by kernel_rfl) (by kernel_rfl) (by kernel_rfl) (fun _ _ _ h => h) (Or.inl ⟨by rfl, fun x j => by go_simp⟩) G (fun K hK => ?_)
  go_simp
  refine hK _ _ ?_
  clear hK K
  refine wpAnyH_done (by kernel_rfl) ?_ _
  clear zc2 zc3 zc4
  generalize wb = w5 at G ⊢
  have y3 : w5.cell? ⟨L, 3, none⟩ = some (.bool false) := by rw [G.ly.cell, HK.out]; rfl
  go_wp2
  go_ret
  exact ⟨by rw [HR.out]; rfl, G.bel⟩
set_option maxHeartbeats 4000000 in
theorem rbody_gone (x : Sp) (w : World) (hk : x.k = 5) (hc : Can x) :
    Calls Tryz.prog 55 #[.agg (slV x)] w fun e w' => e = .returned (.string (strOf (bodyL x))) ∧ Below w.heap.size w w' := by
  have hd := hc.dig
  obtain ⟨hn1, hn2⟩ := hc.names_le
  have hty := hc.ty
  have hsz := hc.sz
  have htm := hc.tm
  obtain ⟨s0, hs0⟩ : ∃ s, s = strOf (be 1 5) := ⟨_, rfl⟩
  have z0 : s0.size ≤ 1000 := by rw [hs0, strOf_size]; simp only [be_len, txt_len, hd.len]; omega
  obtain ⟨s1, hs1⟩ : ∃ s, s = strOf (x.dig) := ⟨_, rfl⟩
  have z1 : s1.size ≤ 1000 := by rw [hs1, strOf_size]; simp only [be_len, txt_len, hd.len]; omega
  obtain ⟨r, hr⟩ : ∃ r, r = strOf (bodyL x) := ⟨_, rfl⟩
  have HR : Hid (r = s0 ++ s1) := Lib.hid (by
    rw [hr, hs0, hs1]
    unfold bodyL pT pD pM pA
    rw [hk]
    simp only [show hT 5 = false from rfl, show hD 5 = true from rfl, show hM 5 = false from rfl, show hA 5 = false from rfl, if_true, Bool.false_eq_true, if_false, List.append_nil, strOf_append, ByteArray.append_assoc])
  rw [← hr]
  clear hr
  have HS0 := Lib.hid hs0
  have HS1 := Lib.hid hs1
  clear hs0 hs1
  have X := At.new w 39 (slV x)
  have F : Below w.heap.size w (w.alloc (.cells (slV x) 39)) := (Below.refl _ _).alloc (Nat.le_refl _) _
  go_enter Tryz.func55, Tryz.ntmps55
  go_upto_region 1 with (fail)
  obtain ⟨B, hB⟩ : ∃ B, B = w.heap.size := ⟨_, rfl⟩
  rw [← hB] at X ⊢
  clear hB
  generalize w.alloc (.cells (slV x) 39) = w1 at X F ⊢
  have c0 : w1.cell? ⟨B, 0, none⟩ = some (.int .i64 5) := (X.cell 0).trans (by rw [sl0, hk])
  have HK := Lib.hid hk
  clear hk
  go_wp2_with fail
  refine (rhas_any 5 _ (by decide)).mono ?_
  rintro e w2 ⟨rfl, G1⟩
  replace X := X.old G1
  replace F := F.trans (G1.mono F.size)
  clear G1 c0
  obtain ⟨w3, S3, Y, G2, Z3⟩ := keep (P := Tryz.prog) (ty := 129) w2 #[.bool false, .bool false, .bool false, .bool false] (layV 5) 129 (by kernel_rfl) rfl (lay_one 5)
  replace X := X.old G2
  replace F := F.trans (G2.mono F.size)
  clear G2 Z3
  go_upto_region 2 with (refine wpl_store S3 rfl rfl rfl rfl rfl ?_)
  clear S3
  generalize w2.heap.size = L at Y ⊢
  have G : Bo w w3 B L x := ⟨X, by rw [HK.out]; exact Y, F⟩
  clear X F Y
  have c0 : w3.cell? ⟨B, 0, none⟩ = some (.int .i64 5) := (G.sx.cell 0).trans (by rw [sl0, HK.out])
  have cv2 : (convert 87 9 (.slice (some ⟨w3.heap.size, 0, none⟩) 1 1)).run Tryz.prog (w3.alloc (.cells #[.int .u8 5] 5)) = .ok (.string s0) (w3.alloc (.cells #[.int .u8 5] 5)) := by rw [HS0.out]; exact conv_bytes w3 [5] (by decide)
  go_upto_region 3 with (fail)
  replace G := G.below ((Below.refl _ _).alloc (Nat.le_refl _) (.cells #[.int .u8 5] 5))
  generalize w3.alloc (.cells #[.int .u8 5] 5) = w4 at G cv2 ⊢
  clear cv2 c0
  have y0 : w4.cell? ⟨L, 0, none⟩ = some (.bool false) := by rw [G.ly.cell, HK.out]; rfl
  have y1 : w4.cell? ⟨L, 1, none⟩ = some (.bool true) := by rw [G.ly.cell, HK.out]; rfl
  have zc2 : (s0 ++ s1).size ≤ 4000 := by simp only [ByteArray.size_append]; omega
  have cvd := conv_dig G.sx hd
  rw [← HS1.out] at cvd
  go_upto_region 7 with (fail)
  clear cvd y0 y1 zc2
  have y2 : w4.cell? ⟨L, 2, none⟩ = some (.bool false) := by rw [G.ly.cell, HK.out]; rfl
  have y3 : w4.cell? ⟨L, 3, none⟩ = some (.bool false) := by rw [G.ly.cell, HK.out]; rfl
  go_wp2
  go_ret
  exact ⟨by rw [HR.out]; rfl, G.bel⟩
set_option maxHeartbeats 4000000 in
theorem rbody_touch (x : Sp) (w : World) (hk : x.k = 6) (hc : Can x) :
    Calls Tryz.prog 55 #[.agg (slV x)] w fun e w' => e = .returned (.string (strOf (bodyL x))) ∧ Below w.heap.size w w' := by
  have hd := hc.dig
  obtain ⟨hn1, hn2⟩ := hc.names_le
  have hty := hc.ty
  have hsz := hc.sz
  have htm := hc.tm
  obtain ⟨s0, hs0⟩ : ∃ s, s = strOf (be 1 6) := ⟨_, rfl⟩
  have z0 : s0.size ≤ 1000 := by rw [hs0, strOf_size]; simp only [be_len, txt_len, hd.len]; omega
  obtain ⟨s1, hs1⟩ : ∃ s, s = strOf (x.dig) := ⟨_, rfl⟩
  have z1 : s1.size ≤ 1000 := by rw [hs1, strOf_size]; simp only [be_len, txt_len, hd.len]; omega
  obtain ⟨r, hr⟩ : ∃ r, r = strOf (bodyL x) := ⟨_, rfl⟩
  have HR : Hid (r = s0 ++ s1) := Lib.hid (by
    rw [hr, hs0, hs1]
    unfold bodyL pT pD pM pA
    rw [hk]
    simp only [show hT 6 = false from rfl, show hD 6 = true from rfl, show hM 6 = false from rfl, show hA 6 = false from rfl, if_true, Bool.false_eq_true, if_false, List.append_nil, strOf_append, ByteArray.append_assoc])
  rw [← hr]
  clear hr
  have HS0 := Lib.hid hs0
  have HS1 := Lib.hid hs1
  clear hs0 hs1
  have X := At.new w 39 (slV x)
  have F : Below w.heap.size w (w.alloc (.cells (slV x) 39)) := (Below.refl _ _).alloc (Nat.le_refl _) _
  go_enter Tryz.func55, Tryz.ntmps55
  go_upto_region 1 with (fail)
  obtain ⟨B, hB⟩ : ∃ B, B = w.heap.size := ⟨_, rfl⟩
  rw [← hB] at X ⊢
  clear hB
  generalize w.alloc (.cells (slV x) 39) = w1 at X F ⊢
  have c0 : w1.cell? ⟨B, 0, none⟩ = some (.int .i64 6) := (X.cell 0).trans (by rw [sl0, hk])
  have HK := Lib.hid hk
  clear hk
  go_wp2_with fail
  refine (rhas_any 6 _ (by decide)).mono ?_
  rintro e w2 ⟨rfl, G1⟩
  replace X := X.old G1
  replace F := F.trans (G1.mono F.size)
  clear G1 c0
  obtain ⟨w3, S3, Y, G2, Z3⟩ := keep (P := Tryz.prog) (ty := 129) w2 #[.bool false, .bool false, .bool false, .bool false] (layV 6) 129 (by kernel_rfl) rfl (lay_one 6)
  replace X := X.old G2
  replace F := F.trans (G2.mono F.size)
  clear G2 Z3
  go_upto_region 2 with (refine wpl_store S3 rfl rfl rfl rfl rfl ?_)
  clear S3
  generalize w2.heap.size = L at Y ⊢
  have G : Bo w w3 B L x := ⟨X, by rw [HK.out]; exact Y, F⟩
  clear X F Y
  have c0 : w3.cell? ⟨B, 0, none⟩ = some (.int .i64 6) := (G.sx.cell 0).trans (by rw [sl0, HK.out])
  have cv2 : (convert 87 9 (.slice (some ⟨w3.heap.size, 0, none⟩) 1 1)).run Tryz.prog (w3.alloc (.cells #[.int .u8 6] 5)) = .ok (.string s0) (w3.alloc (.cells #[.int .u8 6] 5)) := by rw [HS0.out]; exact conv_bytes w3 [6] (by decide)
  go_upto_region 3 with (fail)
  replace G := G.below ((Below.refl _ _).alloc (Nat.le_refl _) (.cells #[.int .u8 6] 5))
  generalize w3.alloc (.cells #[.int .u8 6] 5) = w4 at G cv2 ⊢
  clear cv2 c0
  have y0 : w4.cell? ⟨L, 0, none⟩ = some (.bool false) := by rw [G.ly.cell, HK.out]; rfl
  have y1 : w4.cell? ⟨L, 1, none⟩ = some (.bool true) := by rw [G.ly.cell, HK.out]; rfl
  have zc2 : (s0 ++ s1).size ≤ 4000 := by simp only [ByteArray.size_append]; omega
  have cvd := conv_dig G.sx hd
  rw [← HS1.out] at cvd
  go_upto_region 7 with (fail)
  clear cvd y0 y1 zc2
  have y2 : w4.cell? ⟨L, 2, none⟩ = some (.bool false) := by rw [G.ly.cell, HK.out]; rfl
  have y3 : w4.cell? ⟨L, 3, none⟩ = some (.bool false) := by rw [G.ly.cell, HK.out]; rfl
  go_wp2
  go_ret
  exact ⟨by rw [HR.out]; rfl, G.bel⟩
theorem rbody_any (x : Sp) (w : World) (hc : Can x) :
    Calls Tryz.prog 55 #[.agg (slV x)] w fun e w' => e = .returned (.string (strOf (bodyL x))) ∧ Below w.heap.size w w' := by
  have h := hc.k
  have : x.k = 1 ∨ x.k = 2 ∨ x.k = 3 ∨ x.k = 4 ∨ x.k = 5 ∨ x.k = 6 := by omega
  rcases this with e | e | e | e | e | e
  · exact rbody_bind x w e hc
  · exact rbody_miss x w e hc
  · exact rbody_drop x w e hc
  · exact rbody_blob x w e hc
  · exact rbody_gone x w e hc
  · exact rbody_touch x w e hc
end Go.Proofs.YtdmgobffhpgjlaaGreat.Sl
end
