/-
  Contracts of Flip and Lay.
-/
import Derived.Test.YtkhlcmponfkccaaPkOps3
import Derived.Laws.BitsAllLaws
namespace Go.Proofs.Ytkhlcmponfkccaa.Pk
open Go.RowKit Go.PlainAid Go.Maps
set_option linter.unusedVariables false
set_option linter.unusedSimpArgs false

theorem xor_bv (c b : UInt8) : Value.int .u8 (bits .xor .u8 (c.toNat : Int) (b.toNat : Int)) = bv (c ^^^ b) := by
  rw [u8_xor_nat _ _ c.toNat_lt b.toNat_lt, bv, UInt8.toNat_xor]
section
variable {w w' : World} {p m : Nat} {G : Gs} {D : Dk}
set_option maxRecDepth 100000 in
set_option maxHeartbeats 2000000 in
theorem flip_any (h : DiskAt w p m G D) {s : ByteArray} (hs : s.size ≤ 9223372036854775807) (pos : Int) (hp : pos ≤ 9223372036854775807) (b : UInt8) :
    Calls Try.prog 29 #[.pointer (some ⟨p, 0, none⟩), .string s, .int .i64 pos, .int .u8 (b.toNat : Int)] w fun e w' => e = .returned (.bool (D.flip (kl s) pos b).1) ∧ Post w w' p m G D (D.flip (kl s) pos b).2 := by
  have F := find_any h hs
  have g0 := Goes.refl w (zone p m G D.L)
  unfold Dk.flip
  cases hg : getF (kl s) D.L with
  | none =>
    rw [hg] at F
    simp only [fp, Option.map_none] at F ⊢
    clear hg
    have H := Lib.hid h
    clear h
    go_enter Try.func29, Try.ntmps29
    go_wp2_with fail
    refine F.mono ?_
    rintro e w' ⟨rfl, rfl⟩
    clear F
    go_wp2
    go_ret
    exact ⟨rfl, G, H.out, g0⟩
  | some f =>
    rw [hg] at F
    simp only [fp, Option.map_some] at F ⊢
    obtain ⟨hf, hn⟩ := get_some hg
    have hF := h.file f hf
    obtain ⟨o, cap, e1, _⟩ := hF.row.form
    have c0 := hF.cell0
    have rw0 := hF.row
    rw [e1] at c0 rw0
    have bl := Nat.le_trans (mem_used hf) (used_small h)
    by_cases b1 : pos < 0
    · rw [if_pos (.inl b1)]
      have H := Lib.hid h
      clear h hg hF e1 hf rw0 hn
      generalize (G f.nm).1 = gb at *
      generalize f.bs.length = len at *
      go_enter Try.func29, Try.ntmps29
      go_wp2_with fail
      refine F.mono ?_
      rintro e w' ⟨rfl, rfl⟩
      clear F
      go_wp2
      go_ret
      exact ⟨rfl, G, H.out, g0⟩
    by_cases b2 : (f.bs.length : Int) ≤ pos
    · rw [if_pos (.inr (.inl b2))]
      have H := Lib.hid h
      clear h hg hF e1 hf rw0 hn
      generalize (G f.nm).1 = gb at *
      generalize f.bs.length = len at *
      go_enter Try.func29, Try.ntmps29
      go_wp2_with fail
      refine F.mono ?_
      rintro e w' ⟨rfl, rfl⟩
      clear F
      go_wp2
      go_ret
      exact ⟨rfl, G, H.out, g0⟩
    obtain ⟨a, rfl⟩ : ∃ a : Nat, pos = (a : Int) := ⟨pos.toNat, by omega⟩
    have ha : a < f.bs.length := by omega
    by_cases b3 : b = 0
    · subst b3
      rw [if_pos (.inr (.inr rfl))]
      have H := Lib.hid h
      have b4 : ¬ (f.bs.length : Int) ≤ (a : Int) := by omega
      clear h hg hF e1 hf rw0 hn b1 b2 ha
      generalize (G f.nm).1 = gb at *
      generalize f.bs.length = len at *
      go_enter Try.func29, Try.ntmps29
      go_wp2_with fail
      refine F.mono ?_
      rintro e w' ⟨rfl, rfl⟩
      clear F
      go_wp2
      go_ret
      exact ⟨rfl, G, H.out, g0⟩
    rw [if_neg (by
      rintro (c | c | c)
      · exact b1 c
      · exact b2 c
      · exact b3 c), Int.toNat_natCast]
    have b4 : ¬ (f.bs.length : Int) ≤ (a : Int) := by omega
    have b5 : ¬ (b.toNat : Int) = 0 := by
      intro e
      apply b3
      apply UInt8.toNat_inj.1
      simp
      omega
    obtain ⟨r, e2⟩ : ∃ r, o = some ⟨r, 0, none⟩ := by
      rcases rw0 with ⟨_, e⟩ | ⟨r, cap', cur, fr, e, _⟩
      · rw [e] at ha; simp at ha
      · injection e with e _ _
        exact ⟨r, e⟩
    subst e2
    obtain ⟨c1, f1⟩ := rw0.cells.2 a f.bs[a] (List.getElem?_eq_getElem ha)
    have hgr : (G f.nm).1 ≠ r := h.gr hf hf (by rw [e1]; rfl)
    have FIN : Post w (w.setCell ⟨r, a, none⟩ (bv (f.bs[a] ^^^ b))) p m G D { D with L := updF (kl s) ⟨kl s, f.bs.set a (f.bs.getD a 0 ^^^ b), f.sf⟩ D.L } := by
      have eg : f.bs.getD a 0 = f.bs[a] := by simp [List.getD, ha]
      rw [← hn, eg]
      have hrow := rw0.setByte ha (f.bs[a] ^^^ b)
      have k := h.setFile (w' := w.setCell ⟨r, a, none⟩ (bv (f.bs[a] ^^^ b))) hf (g := ⟨f.nm, f.bs.set a (f.bs[a] ^^^ b), f.sf⟩) (v := (G f.nm).2) rfl (h.ok.upd hf rfl (by have := h.ok.safe f hf; simpa using this) (by have := h.ok.used; simp; omega))
        ⟨(Below.heap_setCell _ _ _ _ hgr).trans hF.st, by rw [e1]; exact hrow⟩ (fun b' _ _ hb' => Below.heap_setCell _ _ _ _ fun e => hb' (by rw [e1, e]; rfl)) (fun b' hb' => .inl hb')
      have z := zone_setFile h hf (g := ⟨f.nm, f.bs.set a (f.bs[a] ^^^ b), f.sf⟩) (v := (G f.nm).2) rfl (fun b' hb' => .inl hb')
      exact ⟨_, k, ⟨rfl, rfl, rfl, by simp, fun b' _ hz => Below.heap_setCell _ _ _ _ fun e => hz (.inr (.inr ⟨f, hf, .inr (by rw [e1, e]; rfl)⟩)), z⟩⟩
    have FH := Lib.hid FIN
    rw [← xor_bv] at FH
    rw [bv_cast] at c1
    clear FIN h hg hF e1 hf rw0 hn b1 b2 b3 hgr hp
    generalize (G f.nm).1 = gb at *
    generalize f.bs[a] = cc at *
    have l1 : (a : Int) < (f.bs.length : Int) := by omega
    generalize f.bs.length = len at *
    generalize UInt8.toNat b = bn at *
    have d1 : ¬ (a : Int) < 0 := by omega
    have d2 : ¬ len ≤ a := by omega
    have d3 : ((bn : Int) == 0) = false := by simpa using b5
    go_enter Try.func29, Try.ntmps29
    go_wp2_with fail
    refine F.mono ?_
    rintro e w' ⟨rfl, rfl⟩
    clear F
    go_wp2
    go_ret
    exact ⟨rfl, FH.out⟩
theorem lay_b {nm a : Bs} (hb : isName nm = false) : D.lay nm a = (1, D) := by
  unfold Dk.lay
  rw [if_pos hb]
theorem lay_nf {nm a : Bs} (hb : isName nm = true) (hg : getF nm D.L = none) (hc : 200 ≤ D.L.length ∨ D.room < (usedF D.L : Int) + (a.length : Int)) : D.lay nm a = (6, D) := by
  unfold Dk.lay
  rw [if_neg (by simp [hb]), hg]
  simp only
  rw [if_pos hc]
theorem lay_no {nm a : Bs} (hb : isName nm = true) (hg : getF nm D.L = none) (hc : ¬ (200 ≤ D.L.length ∨ D.room < (usedF D.L : Int) + (a.length : Int))) : D.lay nm a = (0, { D with L := insF ⟨nm, a, a.length⟩ (delF nm D.L) }) := by
  unfold Dk.lay
  rw [if_neg (by simp [hb]), hg]
  simp only
  rw [if_neg hc]
theorem lay_sf {nm a : Bs} (hb : isName nm = true) {f : Fi} (hg : getF nm D.L = some f) (hc : D.room < (usedF D.L : Int) + (a.length : Int) - (f.bs.length : Int)) : D.lay nm a = (6, D) := by
  unfold Dk.lay
  rw [if_neg (by simp [hb]), hg]
  simp only
  rw [if_pos hc]
theorem lay_so {nm a : Bs} (hb : isName nm = true) {f : Fi} (hg : getF nm D.L = some f) (hc : ¬ D.room < (usedF D.L : Int) + (a.length : Int) - (f.bs.length : Int)) : D.lay nm a = (0, { D with L := insF ⟨nm, a, a.length⟩ (delF nm D.L) }) := by
  unfold Dk.lay
  rw [if_neg (by simp [hb]), hg]
  simp only
  rw [if_neg hc]
/-- the file is put, whatever was under its name -/
theorem lay_fin (h : DiskAt w p m G D) {s t : ByteArray} (hb : isName (kl s) = true) (hu : (usedF (delF (kl s) D.L) : Int) + t.size ≤ D.room) (hc : (delF (kl s) D.L).length < 200) {w0 : World} (g : Goes w0 w (zone p m G D.L) (zone p m G D.L))
    {cap : Nat} {X : World} (hR : RowB X (.slice (some ⟨w.heap.size, 0, none⟩) t.size cap) (kl t)) (hB : Below w.heap.size w X) {w4 : World} {n : Nat}
    (hm : w4.ownsMap Try.prog 9 RF m n ((datum G D.L).put (.string (kl s)) (.lit (.int .i64 (X.heap.size : Int))))) (hg : (X.alloc (.cells #[.slice (some ⟨w.heap.size, 0, none⟩) t.size cap, .int .i64 (t.size : Int)] 70)).grownBy w4 (some m)) :
    Post w0 w4 p m G D { D with L := insF ⟨kl s, kl t, (kl t).length⟩ (delF (kl s) D.L) } := by
  have hk := kl_len t
  have hX : DiskAt X p m G D := h.kept fun b hb => hB.block b (h.lt hb)
  have ok : { D with L := insF ⟨kl s, kl t, (kl t).length⟩ (delF (kl s) D.L) }.Ok := (h.ok.del (kl s)).ins (D := { D with L := delF (kl s) D.L }) hb (Nat.le_refl _) (fun x hx => (mem_del.1 hx).2) (by simpa [hk] using hu) hc
  rw [← hk] at hg hR
  obtain ⟨k1, k2, k3, k4, k5, k6, k7⟩ := hX.putNew (f := ⟨kl s, kl t, (kl t).length⟩) hR (by
    intro b hb hz
    have e : w.heap.size = b := by simpa [Value.ownBlock] using hb
    have := h.lt hz
    omega) ok hm hg
  have q : Goes w0 w4 (zone p m G D.L) (zone p m G D.L) := (g.trans (Goes.of_below hB _)).trans ⟨k5, k6, k7, k4, fun b hb hz => k3 b hb fun e => hz (.inr (.inl e)), fun b hb => .inl hb⟩
  refine ⟨_, k1, q.os, q.tape, q.output, q.size, q.block, fun b hb => ?_⟩
  · rcases k2 b hb with c | c | c
    · exact .inl c
    · have e : w.heap.size = b := by simpa [Value.ownBlock] using c
      have := g.size
      exact .inr (by omega)
    · have := g.size
      have := hB.size
      exact .inr (by omega)
set_option maxRecDepth 100000 in
set_option maxHeartbeats 4000000 in
theorem lay_any (h : DiskAt w p m G D) {s t : ByteArray} (hs : s.size ≤ 9223372036854775807) (ht : t.size ≤ 1099511627) :
    Calls Try.prog 31 #[.pointer (some ⟨p, 0, none⟩), .string s, .string t] w fun e w' => e = .returned (.int .i64 (D.lay (kl s) (kl t)).1) ∧ Post w w' p m G D (D.lay (kl s) (kl t)).2 := by
  have N1 := name_one w hs
  have h1 := h.alloc (.cells #[.string s] 9)
  have g1 := Goes.alloc w (.cells #[.string s] 9) (zone p m G D.L)
  have us := used_small h
  have cn := h.ok.cnt
  have safef := fun f hf => Nat.le_trans (mem_used (f := f) hf) us
  have upne := h.ok.up.ne
  clear h
  have hkt := kl_len t
  by_cases b1 : isName (kl s) = false
  · rw [lay_b b1]
    rw [b1] at N1
    clear b1
    have H1 := Lib.hid h1
    have G1 := Lib.hid g1
    clear h1 g1
    go_enter Try.func31, Try.ntmps31
    go_wp2_with fail
    refine N1.mono ?_
    rintro e w' ⟨rfl, rfl⟩
    clear N1
    go_wp2
    go_ret
    exact ⟨rfl, G, H1.out, G1.out⟩
  have b1 : isName (kl s) = true := by simpa using b1
  rw [b1] at N1
  have US := Lib.hid fun w' (h' : DiskAt w' p m G D) => used_any h'
  have LK := Lib.hid fun w' (h' : DiskAt w' p m G D) => h'.look hs
  have LN := Lib.hid fun w' (h' : DiskAt w' p m G D) ty => h'.map.len Try.underlying60 ty
  simp only [datum_size] at LN
  have R0 : ∀ w', DiskAt w' p m G D → w'.cell? ⟨p, 0, none⟩ = some (.int .i64 D.room) := fun w' h' => by
    have := h'.cell 0
    simpa [headV] using this
  have RH := Lib.hid R0
  have q1 : IntKind.i64.wrap ((usedF D.L : Int) + (t.size : Int)) = (usedF D.L : Int) + (t.size : Int) := IntWalk.i64_in _ (by omega)
  have q2 : IntKind.i64.wrap ((D.L.length : Int) + 1) = (D.L.length : Int) + 1 := IntWalk.i64_in _ (by omega)
  have hkey := keyN hs
  clear R0
  cases hg : getF (kl s) D.L with
  | none =>
    rw [hg] at LK
    simp only [fp, Option.map_none] at LK
    have dn := del_none (get_none hg)
    by_cases c1 : 200 ≤ D.L.length
    · rw [lay_nf b1 hg (.inl c1)]
      have n1 : (200 : Int) < (D.L.length : Int) + 1 := by omega
      clear hg b1 c1 safef upne dn hkt
      go_enter Try.func31, Try.ntmps31
      go_wp2_with fail
      refine N1.mono ?_
      rintro e w' ⟨rfl, rfl⟩
      clear N1
      generalize w.alloc (.cells #[.string s] 9) = w1 at h1 g1 ⊢
      have j0 : DiskAt w1.drew p m G D ∧ Goes w w1.drew (zone p m G D.L) (zone p m G D.L) := ⟨h1.drewN 1, g1.trans (Goes.drewN w1 1 _)⟩
      clear h1 g1
      go_upto_region 5 with (fail)
      refine wp_region_held (S := fun x => DiskAt x p m G D ∧ Goes w x (zone p m G D.L) (zone p m G D.L)) (by kernel_rfl) ?_
      change wpAnyH _ _ _ _ _ _ _ _ w1.drew
      generalize w1.drew = w1' at j0 ⊢
      refine held_take 0 (.pointer (some ⟨p, 0, none⟩)) rfl (by kernel_rfl) (by kernel_rfl) (by kernel_rfl) (fun _ _ _ h => h) (Or.inl ⟨by rfl, fun x j => by go_simp⟩) j0 (fun K hK => ?_)
      go_simp
      refine hK _ _ ?_
      clear hK K
      refine held_take 2 (.string t) rfl (by kernel_rfl) (by kernel_rfl) (by kernel_rfl) (fun _ _ _ h => h) (Or.inl ⟨by rfl, fun x j => by go_simp⟩) j0 (fun K hK => ?_)
      go_simp
      refine hK _ _ ?_
      clear hK K
      refine held_take 3 (.int .i64 (t.size : Int)) rfl (by kernel_rfl) (by kernel_rfl) (by kernel_rfl) (fun _ _ _ h => h) (Or.inl ⟨by rfl, fun x j => by go_simp⟩) j0 (fun K hK => ?_)
      go_simp
      refine hK _ _ ?_
      clear hK K
      refine held_take 5 (.pointer (some ⟨p, 0, none⟩)) rfl (by kernel_rfl) (by kernel_rfl) (by kernel_rfl) (fun _ _ _ h => h) (Or.inl ⟨by rfl, fun x j => by go_simp⟩) j0 (fun K hK => ?_)
      go_simp
      refine hK _ _ ?_
      clear hK K
      refine held_take 6 (.pointer (some ⟨p, 0, none⟩)) rfl (by kernel_rfl) (by kernel_rfl) (by kernel_rfl) (fun _ _ _ h => h) (Or.inl ⟨by rfl, fun x j => by go_simp⟩) j0 (fun K hK => ?_)
      go_simp
      refine hK _ _ ?_
      clear hK K
      refine held_take 7 (.pointer (some ⟨p, 1, none⟩)) rfl (by kernel_rfl) (by kernel_rfl) (by kernel_rfl) (fun _ _ _ h => h) (Or.inl ⟨by rfl, fun x j => by go_simp⟩) j0 (fun K hK => ?_)
      go_simp
      refine hK _ _ ?_
      clear hK K
      refine held_take 8 (.map (some m)) rfl (by kernel_rfl) (by kernel_rfl) (by kernel_rfl) (fun _ _ _ h => h) (Or.inl ⟨by rfl, fun x j => by have c0 := j.1.hand; go_simp⟩) j0 (fun K hK => ?_)
      go_simp
      refine hK _ _ ?_
      clear hK K
      refine held_one 1 (by kernel_rfl) (fun K hK => wpOp_in rfl rfl ?_)
      go_simp
      refine (US.out _ j0.1).mono ?_
      rintro e w3 ⟨rfl, hb3⟩
      have J1 : DiskAt w3 p m G D ∧ Goes w w3 (zone p m G D.L) (zone p m G D.L) := ⟨j0.1.kept fun b hb => hb3.block b (j0.1.lt hb), j0.2.trans (Goes.of_below hb3 _)⟩
      clear hb3
      refine hK _ _ J1 ?_
      clear hK K j0
      refine held_take 9 (.int .i64 (D.L.length : Int)) rfl (by kernel_rfl) (by kernel_rfl) (by kernel_rfl) (fun _ _ _ h => h) (Or.inl ⟨by rfl, fun x j => by have l0 := LN.out x j.1; go_simp⟩) J1 (fun K hK => ?_)
      go_simp
      refine hK _ _ ?_
      clear hK K
      refine held_take 10 (.int .i64 ((D.L.length : Int) + 1)) rfl (by kernel_rfl) (by kernel_rfl) (by kernel_rfl) (fun _ _ _ h => h) (Or.inl ⟨by rfl, fun x j => by go_simp⟩) J1 (fun K hK => ?_)
      go_simp
      refine hK _ _ ?_
      clear hK K
      refine held_take 4 (.int .i64 ((usedF D.L : Int) + (t.size : Int))) rfl (by kernel_rfl) (by kernel_rfl) (by kernel_rfl) (fun _ _ _ h => h) (Or.inl ⟨by rfl, fun x j => by go_simp⟩) J1 (fun K hK => ?_)
      go_simp
      refine hK _ _ ?_
      clear hK K
      refine held_take 11 (.int .i64 ((usedF D.L : Int) + (t.size : Int))) rfl (by kernel_rfl) (by kernel_rfl) (by kernel_rfl) (fun _ _ _ h => h) (Or.inl ⟨by rfl, fun x j => by go_simp⟩) J1 (fun K hK => ?_)
      go_simp
      refine hK _ _ ?_
      clear hK K
      refine held_take 12 (.int .i64 ((D.L.length : Int) + 1)) rfl (by kernel_rfl) (by kernel_rfl) (by kernel_rfl) (fun _ _ _ h => h) (Or.inl ⟨by rfl, fun x j => by go_simp⟩) J1 (fun K hK => ?_)
      go_simp
      refine hK _ _ ?_
      clear hK K
      refine wpAnyH_done (by kernel_rfl) ?_ _
      have r0 := RH.out w3 J1.1
      have l0 := LK.out w3 J1.1
      have c0 := J1.1.hand
      have J2 := Lib.hid J1
      clear J1
      go_wp2
      go_ret
      exact ⟨rfl, G, J2.out.1, J2.out.2⟩
    by_cases c2 : D.room < (usedF D.L : Int) + ((kl t).length : Int)
    · rw [lay_nf b1 hg (.inr c2)]
      rw [hkt] at c2
      have n1 : ¬ (200 : Int) < (D.L.length : Int) + 1 := by omega
      clear hg b1 c1 safef upne dn hkt
      go_enter Try.func31, Try.ntmps31
      go_wp2_with fail
      refine N1.mono ?_
      rintro e w' ⟨rfl, rfl⟩
      clear N1
      generalize w.alloc (.cells #[.string s] 9) = w1 at h1 g1 ⊢
      have j0 : DiskAt w1.drew p m G D ∧ Goes w w1.drew (zone p m G D.L) (zone p m G D.L) := ⟨h1.drewN 1, g1.trans (Goes.drewN w1 1 _)⟩
      clear h1 g1
      go_upto_region 5 with (fail)
      refine wp_region_held (S := fun x => DiskAt x p m G D ∧ Goes w x (zone p m G D.L) (zone p m G D.L)) (by kernel_rfl) ?_
      change wpAnyH _ _ _ _ _ _ _ _ w1.drew
      generalize w1.drew = w1' at j0 ⊢
      refine held_take 0 (.pointer (some ⟨p, 0, none⟩)) rfl (by kernel_rfl) (by kernel_rfl) (by kernel_rfl) (fun _ _ _ h => h) (Or.inl ⟨by rfl, fun x j => by go_simp⟩) j0 (fun K hK => ?_)
      go_simp
      refine hK _ _ ?_
      clear hK K
      refine held_take 2 (.string t) rfl (by kernel_rfl) (by kernel_rfl) (by kernel_rfl) (fun _ _ _ h => h) (Or.inl ⟨by rfl, fun x j => by go_simp⟩) j0 (fun K hK => ?_)
      go_simp
      refine hK _ _ ?_
      clear hK K
      refine held_take 3 (.int .i64 (t.size : Int)) rfl (by kernel_rfl) (by kernel_rfl) (by kernel_rfl) (fun _ _ _ h => h) (Or.inl ⟨by rfl, fun x j => by go_simp⟩) j0 (fun K hK => ?_)
      go_simp
      refine hK _ _ ?_
      clear hK K
      refine held_take 5 (.pointer (some ⟨p, 0, none⟩)) rfl (by kernel_rfl) (by kernel_rfl) (by kernel_rfl) (fun _ _ _ h => h) (Or.inl ⟨by rfl, fun x j => by go_simp⟩) j0 (fun K hK => ?_)
      go_simp
      refine hK _ _ ?_
      clear hK K
      refine held_take 6 (.pointer (some ⟨p, 0, none⟩)) rfl (by kernel_rfl) (by kernel_rfl) (by kernel_rfl) (fun _ _ _ h => h) (Or.inl ⟨by rfl, fun x j => by go_simp⟩) j0 (fun K hK => ?_)
      go_simp
      refine hK _ _ ?_
      clear hK K
      refine held_take 7 (.pointer (some ⟨p, 1, none⟩)) rfl (by kernel_rfl) (by kernel_rfl) (by kernel_rfl) (fun _ _ _ h => h) (Or.inl ⟨by rfl, fun x j => by go_simp⟩) j0 (fun K hK => ?_)
      go_simp
      refine hK _ _ ?_
      clear hK K
      refine held_take 8 (.map (some m)) rfl (by kernel_rfl) (by kernel_rfl) (by kernel_rfl) (fun _ _ _ h => h) (Or.inl ⟨by rfl, fun x j => by have c0 := j.1.hand; go_simp⟩) j0 (fun K hK => ?_)
      go_simp
      refine hK _ _ ?_
      clear hK K
      refine held_one 1 (by kernel_rfl) (fun K hK => wpOp_in rfl rfl ?_)
      go_simp
      refine (US.out _ j0.1).mono ?_
      rintro e w3 ⟨rfl, hb3⟩
      have J1 : DiskAt w3 p m G D ∧ Goes w w3 (zone p m G D.L) (zone p m G D.L) := ⟨j0.1.kept fun b hb => hb3.block b (j0.1.lt hb), j0.2.trans (Goes.of_below hb3 _)⟩
      clear hb3
      refine hK _ _ J1 ?_
      clear hK K j0
      refine held_take 9 (.int .i64 (D.L.length : Int)) rfl (by kernel_rfl) (by kernel_rfl) (by kernel_rfl) (fun _ _ _ h => h) (Or.inl ⟨by rfl, fun x j => by have l0 := LN.out x j.1; go_simp⟩) J1 (fun K hK => ?_)
      go_simp
      refine hK _ _ ?_
      clear hK K
      refine held_take 10 (.int .i64 ((D.L.length : Int) + 1)) rfl (by kernel_rfl) (by kernel_rfl) (by kernel_rfl) (fun _ _ _ h => h) (Or.inl ⟨by rfl, fun x j => by go_simp⟩) J1 (fun K hK => ?_)
      go_simp
      refine hK _ _ ?_
      clear hK K
      refine held_take 4 (.int .i64 ((usedF D.L : Int) + (t.size : Int))) rfl (by kernel_rfl) (by kernel_rfl) (by kernel_rfl) (fun _ _ _ h => h) (Or.inl ⟨by rfl, fun x j => by go_simp⟩) J1 (fun K hK => ?_)
      go_simp
      refine hK _ _ ?_
      clear hK K
      refine held_take 11 (.int .i64 ((usedF D.L : Int) + (t.size : Int))) rfl (by kernel_rfl) (by kernel_rfl) (by kernel_rfl) (fun _ _ _ h => h) (Or.inl ⟨by rfl, fun x j => by go_simp⟩) J1 (fun K hK => ?_)
      go_simp
      refine hK _ _ ?_
      clear hK K
      refine held_take 12 (.int .i64 ((D.L.length : Int) + 1)) rfl (by kernel_rfl) (by kernel_rfl) (by kernel_rfl) (fun _ _ _ h => h) (Or.inl ⟨by rfl, fun x j => by go_simp⟩) J1 (fun K hK => ?_)
      go_simp
      refine hK _ _ ?_
      clear hK K
      refine wpAnyH_done (by kernel_rfl) ?_ _
      have r0 := RH.out w3 J1.1
      have l0 := LK.out w3 J1.1
      have c0 := J1.1.hand
      have J2 := Lib.hid J1
      clear J1
      go_wp2
      go_ret
      exact ⟨rfl, G, J2.out.1, J2.out.2⟩
    · rw [lay_no b1 hg (by rintro (c | c); exact c1 c; exact c2 c)]
      rw [hkt] at c2
      have n1 : ¬ (200 : Int) < (D.L.length : Int) + 1 := by omega
      have FH := Lib.hid fun w3 (h3 : DiskAt w3 p m G D) => lay_fin h3 (s := s) (t := t) b1 (by rw [dn]; omega) (by rw [dn]; omega) (w0 := w)
      clear hg b1 c1 safef upne dn hkt
      go_enter Try.func31, Try.ntmps31
      go_wp2_with fail
      refine N1.mono ?_
      rintro e w' ⟨rfl, rfl⟩
      clear N1
      generalize w.alloc (.cells #[.string s] 9) = w1 at h1 g1 ⊢
      have j0 : DiskAt w1.drew p m G D ∧ Goes w w1.drew (zone p m G D.L) (zone p m G D.L) := ⟨h1.drewN 1, g1.trans (Goes.drewN w1 1 _)⟩
      clear h1 g1
      go_upto_region 5 with (fail)
      refine wp_region_held (S := fun x => DiskAt x p m G D ∧ Goes w x (zone p m G D.L) (zone p m G D.L)) (by kernel_rfl) ?_
      change wpAnyH _ _ _ _ _ _ _ _ w1.drew
      generalize w1.drew = w1' at j0 ⊢
      refine held_take 0 (.pointer (some ⟨p, 0, none⟩)) rfl (by kernel_rfl) (by kernel_rfl) (by kernel_rfl) (fun _ _ _ h => h) (Or.inl ⟨by rfl, fun x j => by go_simp⟩) j0 (fun K hK => ?_)
      go_simp
      refine hK _ _ ?_
      clear hK K
      refine held_take 2 (.string t) rfl (by kernel_rfl) (by kernel_rfl) (by kernel_rfl) (fun _ _ _ h => h) (Or.inl ⟨by rfl, fun x j => by go_simp⟩) j0 (fun K hK => ?_)
      go_simp
      refine hK _ _ ?_
      clear hK K
      refine held_take 3 (.int .i64 (t.size : Int)) rfl (by kernel_rfl) (by kernel_rfl) (by kernel_rfl) (fun _ _ _ h => h) (Or.inl ⟨by rfl, fun x j => by go_simp⟩) j0 (fun K hK => ?_)
      go_simp
      refine hK _ _ ?_
      clear hK K
      refine held_take 5 (.pointer (some ⟨p, 0, none⟩)) rfl (by kernel_rfl) (by kernel_rfl) (by kernel_rfl) (fun _ _ _ h => h) (Or.inl ⟨by rfl, fun x j => by go_simp⟩) j0 (fun K hK => ?_)
      go_simp
      refine hK _ _ ?_
      clear hK K
      refine held_take 6 (.pointer (some ⟨p, 0, none⟩)) rfl (by kernel_rfl) (by kernel_rfl) (by kernel_rfl) (fun _ _ _ h => h) (Or.inl ⟨by rfl, fun x j => by go_simp⟩) j0 (fun K hK => ?_)
      go_simp
      refine hK _ _ ?_
      clear hK K
      refine held_take 7 (.pointer (some ⟨p, 1, none⟩)) rfl (by kernel_rfl) (by kernel_rfl) (by kernel_rfl) (fun _ _ _ h => h) (Or.inl ⟨by rfl, fun x j => by go_simp⟩) j0 (fun K hK => ?_)
      go_simp
      refine hK _ _ ?_
      clear hK K
      refine held_take 8 (.map (some m)) rfl (by kernel_rfl) (by kernel_rfl) (by kernel_rfl) (fun _ _ _ h => h) (Or.inl ⟨by rfl, fun x j => by have c0 := j.1.hand; go_simp⟩) j0 (fun K hK => ?_)
      go_simp
      refine hK _ _ ?_
      clear hK K
      refine held_one 1 (by kernel_rfl) (fun K hK => wpOp_in rfl rfl ?_)
      go_simp
      refine (US.out _ j0.1).mono ?_
      rintro e w3 ⟨rfl, hb3⟩
      have J1 : DiskAt w3 p m G D ∧ Goes w w3 (zone p m G D.L) (zone p m G D.L) := ⟨j0.1.kept fun b hb => hb3.block b (j0.1.lt hb), j0.2.trans (Goes.of_below hb3 _)⟩
      clear hb3
      refine hK _ _ J1 ?_
      clear hK K j0
      refine held_take 9 (.int .i64 (D.L.length : Int)) rfl (by kernel_rfl) (by kernel_rfl) (by kernel_rfl) (fun _ _ _ h => h) (Or.inl ⟨by rfl, fun x j => by have l0 := LN.out x j.1; go_simp⟩) J1 (fun K hK => ?_)
      go_simp
      refine hK _ _ ?_
      clear hK K
      refine held_take 10 (.int .i64 ((D.L.length : Int) + 1)) rfl (by kernel_rfl) (by kernel_rfl) (by kernel_rfl) (fun _ _ _ h => h) (Or.inl ⟨by rfl, fun x j => by go_simp⟩) J1 (fun K hK => ?_)
      go_simp
      refine hK _ _ ?_
      clear hK K
      refine held_take 4 (.int .i64 ((usedF D.L : Int) + (t.size : Int))) rfl (by kernel_rfl) (by kernel_rfl) (by kernel_rfl) (fun _ _ _ h => h) (Or.inl ⟨by rfl, fun x j => by go_simp⟩) J1 (fun K hK => ?_)
      go_simp
      refine hK _ _ ?_
      clear hK K
      refine held_take 11 (.int .i64 ((usedF D.L : Int) + (t.size : Int))) rfl (by kernel_rfl) (by kernel_rfl) (by kernel_rfl) (fun _ _ _ h => h) (Or.inl ⟨by rfl, fun x j => by go_simp⟩) J1 (fun K hK => ?_)
      go_simp
      refine hK _ _ ?_
      clear hK K
      refine held_take 12 (.int .i64 ((D.L.length : Int) + 1)) rfl (by kernel_rfl) (by kernel_rfl) (by kernel_rfl) (fun _ _ _ h => h) (Or.inl ⟨by rfl, fun x j => by go_simp⟩) J1 (fun K hK => ?_)
      go_simp
      refine hK _ _ ?_
      clear hK K
      refine wpAnyH_done (by kernel_rfl) ?_ _
      have r0 := RH.out w3 J1.1
      have l0 := LK.out w3 J1.1
      have c0 := J1.1.hand
      have hown := J1.1.map
      have hml := J1.1.map.lt
      obtain ⟨cap, X, CV, hR, hB, hX⟩ := conv_text w3 t (by omega)
      have hown2 := map_same hown (hB.block m hml)
      have oc : (X.alloc (.cells #[.slice (some ⟨w3.heap.size, 0, none⟩) t.size cap, .int .i64 (t.size : Int)] 70)).ownsMap Try.prog 9 RF m D.L.length (datum G D.L) := hown2.alloc _
      have F3 := Lib.hid (fun w4 n => FH.out w3 J1.1 J1.2 hR hB (w4 := w4) (n := n))
      clear J1 FH hR hB hown hown2 hX
      generalize w3.heap.size = nb at *
      go_wp2_with (first | (at_mapUpdate; refine wpList_mapUpdate_own _ rfl _ _ _ 60 rfl 9 67 kname Try.underlying60 _ m D.L.length _ rfl oc (by unfold maxLen; omega) _ _ _ rfl rfl hkey _ [] (RF_ptr _) ?_; intro w4 ho4 hg4))
      go_ret
      exact ⟨rfl, F3.out w4 _ ho4 hg4⟩
  | some f =>
    rw [hg] at LK
    simp only [fp, Option.map_some] at LK
    obtain ⟨hf, hn⟩ := get_some hg
    have lenf := safef f hf
    have CE : ∀ w3, DiskAt w3 p m G D → ∃ o cap, w3.cell? ⟨(G f.nm).1, 0, none⟩ = some (.slice o f.bs.length cap) := by
      intro w3 h3
      have hF := h3.file f hf
      obtain ⟨o, cap, e1, _⟩ := hF.row.form
      have c0 := hF.cell0
      rw [e1] at c0
      exact ⟨o, cap, c0⟩
    have CH := Lib.hid CE
    have q3 : IntKind.i64.wrap ((usedF D.L : Int) + (t.size : Int) - (f.bs.length : Int)) = (usedF D.L : Int) + (t.size : Int) - (f.bs.length : Int) := IntWalk.i64_in _ (by omega)
    have n1 : ¬ (200 : Int) < (D.L.length : Int) := by omega
    have u1 := used_del upne hf
    have u2 := len_del upne hf
    rw [hn] at u1 u2
    by_cases c2 : D.room < (usedF D.L : Int) + ((kl t).length : Int) - (f.bs.length : Int)
    · rw [lay_sf b1 hg c2]
      rw [hkt] at c2
      clear hg b1 CE safef upne u1 u2 hf hn hkt
      generalize (G f.nm).1 = gb at *
      generalize f.bs.length = fl at *
      go_enter Try.func31, Try.ntmps31
      go_wp2_with fail
      refine N1.mono ?_
      rintro e w' ⟨rfl, rfl⟩
      clear N1
      generalize w.alloc (.cells #[.string s] 9) = w1 at h1 g1 ⊢
      have j0 : DiskAt w1.drew p m G D ∧ Goes w w1.drew (zone p m G D.L) (zone p m G D.L) := ⟨h1.drewN 1, g1.trans (Goes.drewN w1 1 _)⟩
      clear h1 g1
      go_upto_region 5 with (fail)
      refine wp_region_held (S := fun x => DiskAt x p m G D ∧ Goes w x (zone p m G D.L) (zone p m G D.L)) (by kernel_rfl) ?_
      change wpAnyH _ _ _ _ _ _ _ _ w1.drew
      generalize w1.drew = w1' at j0 ⊢
      refine held_take 0 (.pointer (some ⟨p, 0, none⟩)) rfl (by kernel_rfl) (by kernel_rfl) (by kernel_rfl) (fun _ _ _ h => h) (Or.inl ⟨by rfl, fun x j => by go_simp⟩) j0 (fun K hK => ?_)
      go_simp
      refine hK _ _ ?_
      clear hK K
      refine held_take 2 (.string t) rfl (by kernel_rfl) (by kernel_rfl) (by kernel_rfl) (fun _ _ _ h => h) (Or.inl ⟨by rfl, fun x j => by go_simp⟩) j0 (fun K hK => ?_)
      go_simp
      refine hK _ _ ?_
      clear hK K
      refine held_take 3 (.int .i64 (t.size : Int)) rfl (by kernel_rfl) (by kernel_rfl) (by kernel_rfl) (fun _ _ _ h => h) (Or.inl ⟨by rfl, fun x j => by go_simp⟩) j0 (fun K hK => ?_)
      go_simp
      refine hK _ _ ?_
      clear hK K
      refine held_take 5 (.pointer (some ⟨p, 0, none⟩)) rfl (by kernel_rfl) (by kernel_rfl) (by kernel_rfl) (fun _ _ _ h => h) (Or.inl ⟨by rfl, fun x j => by go_simp⟩) j0 (fun K hK => ?_)
      go_simp
      refine hK _ _ ?_
      clear hK K
      refine held_take 6 (.pointer (some ⟨p, 0, none⟩)) rfl (by kernel_rfl) (by kernel_rfl) (by kernel_rfl) (fun _ _ _ h => h) (Or.inl ⟨by rfl, fun x j => by go_simp⟩) j0 (fun K hK => ?_)
      go_simp
      refine hK _ _ ?_
      clear hK K
      refine held_take 7 (.pointer (some ⟨p, 1, none⟩)) rfl (by kernel_rfl) (by kernel_rfl) (by kernel_rfl) (fun _ _ _ h => h) (Or.inl ⟨by rfl, fun x j => by go_simp⟩) j0 (fun K hK => ?_)
      go_simp
      refine hK _ _ ?_
      clear hK K
      refine held_take 8 (.map (some m)) rfl (by kernel_rfl) (by kernel_rfl) (by kernel_rfl) (fun _ _ _ h => h) (Or.inl ⟨by rfl, fun x j => by have c0 := j.1.hand; go_simp⟩) j0 (fun K hK => ?_)
      go_simp
      refine hK _ _ ?_
      clear hK K
      refine held_one 1 (by kernel_rfl) (fun K hK => wpOp_in rfl rfl ?_)
      go_simp
      refine (US.out _ j0.1).mono ?_
      rintro e w3 ⟨rfl, hb3⟩
      have J1 : DiskAt w3 p m G D ∧ Goes w w3 (zone p m G D.L) (zone p m G D.L) := ⟨j0.1.kept fun b hb => hb3.block b (j0.1.lt hb), j0.2.trans (Goes.of_below hb3 _)⟩
      clear hb3
      refine hK _ _ J1 ?_
      clear hK K j0
      refine held_take 9 (.int .i64 (D.L.length : Int)) rfl (by kernel_rfl) (by kernel_rfl) (by kernel_rfl) (fun _ _ _ h => h) (Or.inl ⟨by rfl, fun x j => by have l0 := LN.out x j.1; go_simp⟩) J1 (fun K hK => ?_)
      go_simp
      refine hK _ _ ?_
      clear hK K
      refine held_take 10 (.int .i64 ((D.L.length : Int) + 1)) rfl (by kernel_rfl) (by kernel_rfl) (by kernel_rfl) (fun _ _ _ h => h) (Or.inl ⟨by rfl, fun x j => by go_simp⟩) J1 (fun K hK => ?_)
      go_simp
      refine hK _ _ ?_
      clear hK K
      refine held_take 4 (.int .i64 ((usedF D.L : Int) + (t.size : Int))) rfl (by kernel_rfl) (by kernel_rfl) (by kernel_rfl) (fun _ _ _ h => h) (Or.inl ⟨by rfl, fun x j => by go_simp⟩) J1 (fun K hK => ?_)
      go_simp
      refine hK _ _ ?_
      clear hK K
      refine held_take 11 (.int .i64 ((usedF D.L : Int) + (t.size : Int))) rfl (by kernel_rfl) (by kernel_rfl) (by kernel_rfl) (fun _ _ _ h => h) (Or.inl ⟨by rfl, fun x j => by go_simp⟩) J1 (fun K hK => ?_)
      go_simp
      refine hK _ _ ?_
      clear hK K
      refine held_take 12 (.int .i64 ((D.L.length : Int) + 1)) rfl (by kernel_rfl) (by kernel_rfl) (by kernel_rfl) (fun _ _ _ h => h) (Or.inl ⟨by rfl, fun x j => by go_simp⟩) J1 (fun K hK => ?_)
      go_simp
      refine hK _ _ ?_
      clear hK K
      refine wpAnyH_done (by kernel_rfl) ?_ _
      have r0 := RH.out w3 J1.1
      have l0 := LK.out w3 J1.1
      have c0 := J1.1.hand
      obtain ⟨o, cap, c3⟩ := CH.out w3 J1.1
      have J2 := Lib.hid J1
      clear J1 CH LK RH
      go_wp2
      go_ret
      exact ⟨rfl, G, J2.out.1, J2.out.2⟩
    · rw [lay_so b1 hg c2]
      rw [hkt] at c2
      have FH := Lib.hid fun w3 (h3 : DiskAt w3 p m G D) => lay_fin h3 (s := s) (t := t) b1 (by omega) (by omega) (w0 := w)
      clear hg b1 CE safef upne u1 u2 hf hn hkt
      generalize (G f.nm).1 = gb at *
      generalize f.bs.length = fl at *
      go_enter Try.func31, Try.ntmps31
      go_wp2_with fail
      refine N1.mono ?_
      rintro e w' ⟨rfl, rfl⟩
      clear N1
      generalize w.alloc (.cells #[.string s] 9) = w1 at h1 g1 ⊢
      have j0 : DiskAt w1.drew p m G D ∧ Goes w w1.drew (zone p m G D.L) (zone p m G D.L) := ⟨h1.drewN 1, g1.trans (Goes.drewN w1 1 _)⟩
      clear h1 g1
      go_upto_region 5 with (fail)
      refine wp_region_held (S := fun x => DiskAt x p m G D ∧ Goes w x (zone p m G D.L) (zone p m G D.L)) (by kernel_rfl) ?_
      change wpAnyH _ _ _ _ _ _ _ _ w1.drew
      generalize w1.drew = w1' at j0 ⊢
      refine held_take 0 (.pointer (some ⟨p, 0, none⟩)) rfl (by kernel_rfl) (by kernel_rfl) (by kernel_rfl) (fun _ _ _ h => h) (Or.inl ⟨by rfl, fun x j => by go_simp⟩) j0 (fun K hK => ?_)
      go_simp
      refine hK _ _ ?_
      clear hK K
      refine held_take 2 (.string t) rfl (by kernel_rfl) (by kernel_rfl) (by kernel_rfl) (fun _ _ _ h => h) (Or.inl ⟨by rfl, fun x j => by go_simp⟩) j0 (fun K hK => ?_)
      go_simp
      refine hK _ _ ?_
      clear hK K
      refine held_take 3 (.int .i64 (t.size : Int)) rfl (by kernel_rfl) (by kernel_rfl) (by kernel_rfl) (fun _ _ _ h => h) (Or.inl ⟨by rfl, fun x j => by go_simp⟩) j0 (fun K hK => ?_)
      go_simp
      refine hK _ _ ?_
      clear hK K
      refine held_take 5 (.pointer (some ⟨p, 0, none⟩)) rfl (by kernel_rfl) (by kernel_rfl) (by kernel_rfl) (fun _ _ _ h => h) (Or.inl ⟨by rfl, fun x j => by go_simp⟩) j0 (fun K hK => ?_)
      go_simp
      refine hK _ _ ?_
      clear hK K
      refine held_take 6 (.pointer (some ⟨p, 0, none⟩)) rfl (by kernel_rfl) (by kernel_rfl) (by kernel_rfl) (fun _ _ _ h => h) (Or.inl ⟨by rfl, fun x j => by go_simp⟩) j0 (fun K hK => ?_)
      go_simp
      refine hK _ _ ?_
      clear hK K
      refine held_take 7 (.pointer (some ⟨p, 1, none⟩)) rfl (by kernel_rfl) (by kernel_rfl) (by kernel_rfl) (fun _ _ _ h => h) (Or.inl ⟨by rfl, fun x j => by go_simp⟩) j0 (fun K hK => ?_)
      go_simp
      refine hK _ _ ?_
      clear hK K
      refine held_take 8 (.map (some m)) rfl (by kernel_rfl) (by kernel_rfl) (by kernel_rfl) (fun _ _ _ h => h) (Or.inl ⟨by rfl, fun x j => by have c0 := j.1.hand; go_simp⟩) j0 (fun K hK => ?_)
      go_simp
      refine hK _ _ ?_
      clear hK K
      refine held_one 1 (by kernel_rfl) (fun K hK => wpOp_in rfl rfl ?_)
      go_simp
      refine (US.out _ j0.1).mono ?_
      rintro e w3 ⟨rfl, hb3⟩
      have J1 : DiskAt w3 p m G D ∧ Goes w w3 (zone p m G D.L) (zone p m G D.L) := ⟨j0.1.kept fun b hb => hb3.block b (j0.1.lt hb), j0.2.trans (Goes.of_below hb3 _)⟩
      clear hb3
      refine hK _ _ J1 ?_
      clear hK K j0
      refine held_take 9 (.int .i64 (D.L.length : Int)) rfl (by kernel_rfl) (by kernel_rfl) (by kernel_rfl) (fun _ _ _ h => h) (Or.inl ⟨by rfl, fun x j => by have l0 := LN.out x j.1; go_simp⟩) J1 (fun K hK => ?_)
      go_simp
      refine hK _ _ ?_
      clear hK K
      refine held_take 10 (.int .i64 ((D.L.length : Int) + 1)) rfl (by kernel_rfl) (by kernel_rfl) (by kernel_rfl) (fun _ _ _ h => h) (Or.inl ⟨by rfl, fun x j => by go_simp⟩) J1 (fun K hK => ?_)
      go_simp
      refine hK _ _ ?_
      clear hK K
      refine held_take 4 (.int .i64 ((usedF D.L : Int) + (t.size : Int))) rfl (by kernel_rfl) (by kernel_rfl) (by kernel_rfl) (fun _ _ _ h => h) (Or.inl ⟨by rfl, fun x j => by go_simp⟩) J1 (fun K hK => ?_)
      go_simp
      refine hK _ _ ?_
      clear hK K
      refine held_take 11 (.int .i64 ((usedF D.L : Int) + (t.size : Int))) rfl (by kernel_rfl) (by kernel_rfl) (by kernel_rfl) (fun _ _ _ h => h) (Or.inl ⟨by rfl, fun x j => by go_simp⟩) J1 (fun K hK => ?_)
      go_simp
      refine hK _ _ ?_
      clear hK K
      refine held_take 12 (.int .i64 ((D.L.length : Int) + 1)) rfl (by kernel_rfl) (by kernel_rfl) (by kernel_rfl) (fun _ _ _ h => h) (Or.inl ⟨by rfl, fun x j => by go_simp⟩) J1 (fun K hK => ?_)
      go_simp
      refine hK _ _ ?_
      clear hK K
      refine wpAnyH_done (by kernel_rfl) ?_ _
      have r0 := RH.out w3 J1.1
      have l0 := LK.out w3 J1.1
      have c0 := J1.1.hand
      obtain ⟨o, cap0, c3⟩ := CH.out w3 J1.1
      have hown := J1.1.map
      have hml := J1.1.map.lt
      obtain ⟨cap, X, CV, hR, hB, hX⟩ := conv_text w3 t (by omega)
      have hown2 := map_same hown (hB.block m hml)
      have oc : (X.alloc (.cells #[.slice (some ⟨w3.heap.size, 0, none⟩) t.size cap, .int .i64 (t.size : Int)] 70)).ownsMap Try.prog 9 RF m D.L.length (datum G D.L) := hown2.alloc _
      have F3 := Lib.hid (fun w4 n => FH.out w3 J1.1 J1.2 hR hB (w4 := w4) (n := n))
      clear J1 FH hR hB hown hown2 hX CH LK RH
      generalize w3.heap.size = nb at *
      go_wp2_with (first | (at_mapUpdate; refine wpList_mapUpdate_own _ rfl _ _ _ 60 rfl 9 67 kname Try.underlying60 _ m D.L.length _ rfl oc (by unfold maxLen; omega) _ _ _ rfl rfl hkey _ [] (RF_ptr _) ?_; intro w4 ho4 hg4))
      go_ret
      exact ⟨rfl, F3.out w4 _ ho4 hg4⟩
end
end Go.Proofs.Ytkhlcmponfkccaa.Pk
