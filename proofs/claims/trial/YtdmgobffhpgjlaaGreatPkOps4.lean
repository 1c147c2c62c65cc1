/-
  Contracts of Flip and Lay.
-/
import Derived.Test.YtdmgobffhpgjlaaGreatPkOps3
import Derived.Laws.BitsAllLaws

namespace Go.Proofs.YtdmgobffhpgjlaaGreat.Pk
open Go.RowKit Go.PlainAid Go.Maps
set_option linter.unusedVariables false
set_option maxRecDepth 20000
set_option linter.unusedSimpArgs false

theorem xor_bv (c b : UInt8) : Value.int .u8 (bits .xor .u8 (c.toNat : Int) (b.toNat : Int)) = bv (c ^^^ b) := by
  rw [u8_xor_nat _ _ c.toNat_lt b.toNat_lt, bv, UInt8.toNat_xor]
section
variable {w w' : World} {p m : Nat} {G : Gs} {D : Dk}
set_option maxRecDepth 100000 in
set_option maxHeartbeats 2000000 in
theorem flip_any (h : DiskAt w p m G D) {s : ByteArray} (hs : s.size ≤ 9223372036854775807) (pos : Int) (hp : pos ≤ 9223372036854775807) (b : UInt8) :
    Calls Tryz.prog 17 #[.pointer (some ⟨p, 0, none⟩), .string s, .int .i64 pos, .int .u8 (b.toNat : Int)] w fun e w' => e = .returned (.bool (D.flip (kl s) pos b).1) ∧ Post w w' p m G D (D.flip (kl s) pos b).2 := by
  have F := find_any h hs
  have g0 := Goes.refl w (zone p m G D.L)
  unfold Dk.flip
  cases hg : getF (kl s) D.L with
  | none =>
    rw [hg] at F
    simp only [fp, Option.map_none] at F ⊢
    clear hg
    have H := Lib.hid h
    clear h
    go_enter Tryz.func17, Tryz.ntmps17
    go_wp2_with fail
    refine F.mono ?_
    rintro e w' ⟨rfl, rfl⟩
    clear F
    go_wp2
    go_ret
    exact ⟨rfl, G, H.out, g0⟩
  | some f =>
    rw [hg] at F
    simp only [fp, Option.map_some] at F ⊢
    obtain ⟨hf, hn⟩ := get_some hg
    have hF := h.file f hf
    obtain ⟨o, cap, e1, _⟩ := hF.row.form
    have c0 := hF.cell0
    have rw0 := hF.row
    rw [e1] at c0 rw0
    have bl := Nat.le_trans (mem_used hf) (used_small h)
    by_cases b1 : pos < 0
    · rw [if_pos (.inl b1)]
      have H := Lib.hid h
      clear h hg hF e1 hf rw0 hn
      generalize (G f.nm).1 = gb at *
      generalize f.bs.length = len at *
      go_enter Tryz.func17, Tryz.ntmps17
      go_wp2_with fail
      refine F.mono ?_
      rintro e w' ⟨rfl, rfl⟩
      clear F
      go_wp2
      go_ret
      exact ⟨rfl, G, H.out, g0⟩
    by_cases b2 : (f.bs.length : Int) ≤ pos
    · rw [if_pos (.inr (.inl b2))]
      have H := Lib.hid h
      clear h hg hF e1 hf rw0 hn
      generalize (G f.nm).1 = gb at *
      generalize f.bs.length = len at *
      go_enter Tryz.func17, Tryz.ntmps17
      go_wp2_with fail
      refine F.mono ?_
      rintro e w' ⟨rfl, rfl⟩
      clear F
      go_wp2
      go_ret
      exact ⟨rfl, G, H.out, g0⟩
    obtain ⟨a, rfl⟩ : ∃ a : Nat, pos = (a : Int) := ⟨pos.toNat, by omega⟩
    have ha : a < f.bs.length := by omega
    by_cases b3 : b = 0
    · subst b3
      rw [if_pos (.inr (.inr rfl))]
      have H := Lib.hid h
      have b4 : ¬ (f.bs.length : Int) ≤ (a : Int) := by omega
      clear h hg hF e1 hf rw0 hn b1 b2 ha
      generalize (G f.nm).1 = gb at *
      generalize f.bs.length = len at *
      go_enter Tryz.func17, Tryz.ntmps17
      go_wp2_with fail
      refine F.mono ?_
      rintro e w' ⟨rfl, rfl⟩
      clear F
      go_wp2
      go_ret
      exact ⟨rfl, G, H.out, g0⟩
    rw [if_neg (by
      rintro (c | c | c)
      · exact b1 c
      · exact b2 c
      · exact b3 c), Int.toNat_natCast]
    have b4 : ¬ (f.bs.length : Int) ≤ (a : Int) := by omega
    have b5 : ¬ (b.toNat : Int) = 0 := by
      intro e
      apply b3
      apply UInt8.toNat_inj.1
      simp
      omega
    obtain ⟨r, e2⟩ : ∃ r, o = some ⟨r, 0, none⟩ := by
      rcases rw0 with ⟨_, e⟩ | ⟨r, cap', cur, fr, e, _⟩
      · rw [e] at ha; simp at ha
      · injection e with e _ _
        exact ⟨r, e⟩
    subst e2
    obtain ⟨c1, f1⟩ := rw0.cells.2 a f.bs[a] (List.getElem?_eq_getElem ha)
    have hgr : (G f.nm).1 ≠ r := h.gr hf hf (by rw [e1]; rfl)
    have FIN : Post w (w.setCell ⟨r, a, none⟩ (bv (f.bs[a] ^^^ b))) p m G D { D with L := updF (kl s) ⟨kl s, f.bs.set a (f.bs.getD a 0 ^^^ b), f.sf⟩ D.L } := by
      have eg : f.bs.getD a 0 = f.bs[a] := by simp [List.getD, ha]
      rw [← hn, eg]
      have hrow := rw0.setByte ha (f.bs[a] ^^^ b)
      have k := h.setFile (w' := w.setCell ⟨r, a, none⟩ (bv (f.bs[a] ^^^ b))) hf (g := ⟨f.nm, f.bs.set a (f.bs[a] ^^^ b), f.sf⟩) (v := (G f.nm).2) rfl (h.ok.upd hf rfl (by have := h.ok.safe f hf; simpa using this) (by have := h.ok.used; simp; omega))
        ⟨(Below.heap_setCell _ _ _ _ hgr).trans hF.st, by rw [e1]; exact hrow⟩ (fun b' _ _ hb' => Below.heap_setCell _ _ _ _ fun e => hb' (by rw [e1, e]; rfl)) (fun b' hb' => .inl hb')
      have z := zone_setFile h hf (g := ⟨f.nm, f.bs.set a (f.bs[a] ^^^ b), f.sf⟩) (v := (G f.nm).2) rfl (fun b' hb' => .inl hb')
      exact ⟨_, k, ⟨rfl, rfl, rfl, by simp, fun b' _ hz => Below.heap_setCell _ _ _ _ fun e => hz (.inr (.inr ⟨f, hf, .inr (by rw [e1, e]; rfl)⟩)), z⟩⟩
    have FH := Lib.hid FIN
    rw [← xor_bv] at FH
    rw [bv_cast] at c1
    clear FIN h hg hF e1 hf rw0 hn b1 b2 b3 hgr hp
    generalize (G f.nm).1 = gb at *
    generalize f.bs[a] = cc at *
    have l1 : (a : Int) < (f.bs.length : Int) := by omega
    generalize f.bs.length = len at *
    generalize UInt8.toNat b = bn at *
    have d1 : ¬ (a : Int) < 0 := by omega
    have d2 : ¬ len ≤ a := by omega
    have d3 : ((bn : Int) == 0) = false := by simpa using b5
    go_enter Tryz.func17, Tryz.ntmps17
    go_wp2_with fail
    refine F.mono ?_
    rintro e w' ⟨rfl, rfl⟩
    clear F
    go_wp2
    go_ret
    exact ⟨rfl, FH.out⟩
end
end Go.Proofs.YtdmgobffhpgjlaaGreat.Pk
