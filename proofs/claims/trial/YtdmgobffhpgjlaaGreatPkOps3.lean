/-
  Contracts of Rename and Read.
-/
import Derived.Test.YtdmgobffhpgjlaaGreatPkCut
namespace Go.Proofs.YtdmgobffhpgjlaaGreat.Pk
open Go.RowKit Go.PlainAid Go.Maps
set_option linter.unusedVariables false
set_option maxRecDepth 20000
set_option linter.unusedSimpArgs false

section
variable {w w' : World} {p m : Nat} {G : Gs} {D : Dk}
theorem rename_r {nm to : Bs} (hr : (D.beg (isName nm && isName to)).1 ≠ 0) : D.rename nm to = D.beg (isName nm && isName to) := by
  unfold Dk.rename
  simp only
  rw [if_pos hr]
theorem rename_n {nm to : Bs} (hr : (D.beg (isName nm && isName to)).1 = 0) (hg : getF nm (D.beg (isName nm && isName to)).2.L = none) : D.rename nm to = (7, (D.beg (isName nm && isName to)).2) := by
  unfold Dk.rename
  simp only
  rw [if_neg (by simpa using hr), hg]
theorem rename_s {nm to : Bs} (hr : (D.beg (isName nm && isName to)).1 = 0) {f : Fi} (hg : getF nm (D.beg (isName nm && isName to)).2.L = some f) : D.rename nm to = (0, { (D.beg (isName nm && isName to)).2 with L := insF ⟨to, f.bs, f.sf⟩ (delF to (delF nm (D.beg (isName nm && isName to)).2.L)) }) := by
  unfold Dk.rename
  simp only
  rw [if_neg (by simpa using hr), hg]
set_option maxRecDepth 100000 in
set_option maxHeartbeats 2000000 in
theorem rename_any (h : DiskAt w p m G D) (ho : D.ops ≤ 1099511627776) {s t : ByteArray} (hs : s.size ≤ 9223372036854775807) (ht : t.size ≤ 9223372036854775807) :
    Calls Tryz.prog 85 #[.pointer (some ⟨p, 0, none⟩), .string s, .string t] w fun e w' => e = .returned (.int .i64 (D.rename (kl s) (kl t)).1) ∧ Post w w' p m G D (D.rename (kl s) (kl t)).2 := by
  have N1 := name_two w hs ht
  have hA := h.alloc (.cells #[.string s, .string t] 9)
  have g0 := Goes.alloc w (.cells #[.string s, .string t] 9) (zone p m G D.L)
  have HL := Lib.hid (beg_L D (isName (kl s) && isName (kl t))).1
  clear h
  by_cases hr : (D.beg (isName (kl s) && isName (kl t))).1 ≠ 0
  · rw [rename_r hr]
    have B := reach_no hA ho hs (isName (kl s) && isName (kl t)) hr
    clear hA
    generalize D.beg (isName (kl s) && isName (kl t)) = r at *
    obtain ⟨r1, r2⟩ := r
    simp only at hr B HL ⊢
    generalize (isName (kl s) && isName (kl t)) = good at *
    go_enter Tryz.func85, Tryz.ntmps85
    go_wp2_with fail
    refine N1.mono ?_
    rintro e w' ⟨rfl, rfl⟩
    go_wp2_with fail
    refine B.mono ?_
    rintro e w2 ⟨rfl, h2, g2⟩
    clear N1 B
    go_wp2
    go_ret
    exact ⟨rfl, G, h2, by rw [HL.out]; exact g0.trans g2⟩
  have hr : (D.beg (isName (kl s) && isName (kl t))).1 = 0 := by simpa using hr
  have hgd := beg_good hr
  cases hg : getF (kl s) (D.beg (isName (kl s) && isName (kl t))).2.L with
  | none =>
    rw [rename_n hr hg]
    have B := reach_none hA ho hs (isName (kl s) && isName (kl t)) hr hg
    clear hA hgd hr hg
    generalize (D.beg (isName (kl s) && isName (kl t))).2 = r at *
    generalize (isName (kl s) && isName (kl t)) = good at *
    go_enter Tryz.func85, Tryz.ntmps85
    go_wp2_with fail
    refine N1.mono ?_
    rintro e w' ⟨rfl, rfl⟩
    go_wp2_with fail
    refine B.mono ?_
    rintro e w2 ⟨rfl, h2, g2⟩
    clear N1 B
    go_wp2
    go_ret
    exact ⟨rfl, G, h2, by rw [HL.out]; exact g0.trans g2⟩
  | some f =>
    have B := reach_some hA ho hs (isName (kl s) && isName (kl t)) hr hg
    clear hA
    obtain ⟨hf, hn⟩ := get_some hg
    rw [rename_s hr hg]
    have hto : isName (kl t) = true := by
      simp only [Bool.and_eq_true] at hgd
      exact hgd.2
    clear hgd hr hg
    generalize (D.beg (isName (kl s) && isName (kl t))).2 = r at *
    have FIN : ∀ w2, DiskAt w2 p m G r → ∀ w3, w3.ownsMap Tryz.prog 9 RF m r.L.length ((datum G r.L).del (.string (kl s))) → w2.mapTurned w3 m → Goes w w2 (zone p m G D.L) (zone p m G D.L) → ∀ w4 n, w4.ownsMap Tryz.prog 9 RF m n (((datum G r.L).del (.string (kl s))).put (.string (kl t)) (.lit (.int .i64 ((G f.nm).1 : Int)))) → w3.grownBy w4 (some m) →
        Post w w4 p m G D { r with L := insF ⟨kl t, f.bs, f.sf⟩ (delF (kl t) (delF (kl s) r.L)) } := by
      intro w2 h2 w3 hm3 ht3 g2 w4 n hm4 hg4
      have hg3 := ht3.grown
      have h3 := h2.del (w' := w3) (kl s) hm3 fun b hb hne => hg3.block b hb fun e => hne (Option.some.inj e)
      have both : ∀ b, b < w2.heap.size → b ≠ m → w4.heap[b]? = w2.heap[b]? := fun b hb hne => (hg4.block b (Nat.lt_of_lt_of_le hb hg3.size) fun e => hne (Option.some.inj e)).trans (hg3.block b hb fun e => hne (Option.some.inj e))
      have hF := h2.file f hf
      have hF4 : FileAt w4 ⟨kl t, f.bs, f.sf⟩ ((G f.nm).1, (G f.nm).2) := ⟨(both _ (in_heap hF.st) (h2.mg hf).symm).trans hF.st, row_same hF.row fun b hb => both b (h2.lt (.inr (.inr ⟨f, hf, .inr hb⟩))) (h2.mr hf hb).symm⟩
      have hu := used_del h2.ok.up.ne hf
      have hl := len_del h2.ok.up.ne hf
      rw [hn] at hu hl
      have huse := h2.ok.used
      have hcnt := h2.ok.cnt
      have ok : { r with L := insF ⟨kl t, f.bs, f.sf⟩ (delF (kl t) (delF (kl s) r.L)) }.Ok := by
        have o1 := (h2.ok.del (kl s)).del (kl t)
        refine o1.ins (D := { r with L := delF (kl t) (delF (kl s) r.L) }) hto (h2.ok.safe f hf) (fun x hx => (mem_del.1 hx).2) ?_ ?_
        · have : usedF (delF (kl t) (delF (kl s) r.L)) ≤ usedF (delF (kl s) r.L) := by
            cases hgt : getF (kl t) (delF (kl s) r.L) with
            | none => rw [del_none (get_none hgt)]; exact Nat.le_refl _
            | some x =>
              obtain ⟨x1, x2⟩ := get_some hgt
              have := used_del (h2.ok.up.del (kl s)).ne x1
              rw [x2] at this
              omega
          simp
          omega
        · have : (delF (kl t) (delF (kl s) r.L)).length ≤ (delF (kl s) r.L).length := List.length_filter_le _ _
          simp
          omega
      rw [datum_del] at hm4
      have k := h3.put (w' := w4) (f := ⟨kl t, f.bs, f.sf⟩) (g := (G f.nm).1) (v := (G f.nm).2) hm4 ok hF4 ?_ ?_ ?_
      · refine ⟨_, k, g2.trans ⟨hg4.os.trans hg3.os, hg4.tape.trans hg3.tape, hg4.output.trans hg3.output, Nat.le_trans hg3.size hg4.size, fun b hb hz => both b hb fun e => hz (.inr (.inl e)), fun b hb => ?_⟩⟩
        rcases zone_put (D := { r with L := delF (kl s) r.L }) b hb with c | c | c
        · have := zone_del (kl s) b c
          rw [HL.out] at this
          exact .inl this
        · exact .inl (.inr (.inr ⟨f, by rw [← HL.out]; exact hf, .inl c⟩))
        · exact .inl (.inr (.inr ⟨f, by rw [← HL.out]; exact hf, .inr c⟩))
      · intro b hb hne
        exact hg4.block b (h3.lt (zone_del (kl t) b hb)) fun e => hne (Option.some.inj e)
      · intro x hx e
        obtain ⟨hx1, hx2⟩ := mem_del.1 (mem_del.1 hx).1
        exact (h2.apart f hf x hx1 (by rw [hn]; exact hx2.symm)).1 e
      · intro b hb x hx
        obtain ⟨hx1, hx2⟩ := mem_del.1 (mem_del.1 hx).1
        exact (h2.apart f hf x hx1 (by rw [hn]; exact hx2.symm)).2 b hb
    have FH := Lib.hid FIN
    have hkey := keyN hs
    have hkey2 := keyN ht
    have CN : ∀ w', DiskAt w' p m G r → r.L.length ≤ 200 := fun w' h' => h'.ok.cnt
    have CNH := Lib.hid CN
    clear FIN hf hn CN hto
    generalize (G f.nm).1 = gb at *
    generalize (isName (kl s) && isName (kl t)) = good at *
    go_enter Tryz.func85, Tryz.ntmps85
    go_wp2_with fail
    refine N1.mono ?_
    rintro e w' ⟨rfl, rfl⟩
    go_wp2_with fail
    refine B.mono ?_
    rintro e w2 ⟨rfl, h2, g2⟩
    clear N1 B
    have c1 := h2.hand
    have pm := h2.pm
    have lp := in_heap h2.head
    have hown := h2.map
    have cn := CNH.out w2 h2
    have F2 := Lib.hid (FH.out w2 h2)
    have G2 := Lib.hid (g0.trans g2)
    clear h2 g2 g0 FH CNH
    go_wp2_with (first | (at_delete; refine wpList_delete_own _ rfl _ _ 70 9 rfl 86 kname Tryz.underlying70 _ m _ _ rfl hown _ _ rfl hkey ?_; intro w3 ho3 ht3; have c3 := (World.cell?_of_block (a := ⟨p, 1, none⟩) (ht3.grown.block p lp fun e => pm (Option.some.inj e))).trans c1) | (at_mapUpdate; refine wpList_mapUpdate_own _ rfl _ _ _ 70 rfl 9 86 kname Tryz.underlying70 _ m r.L.length _ rfl ho3 (by unfold maxLen; omega) _ _ _ rfl rfl hkey2 _ [] (RF_ptr _) ?_; intro w4 ho4 hg4))
    go_ret
    exact ⟨rfl, F2.out w3 ho3 ht3 G2.out w4 _ ho4 hg4⟩
theorem read_b {nm : Bs} {pos n : Int} (hr : (isName nm && decide (0 ≤ pos) && decide (0 ≤ n)) = false) : D.read nm pos n = ([], 1, D) := by
  unfold Dk.read
  rw [hr]
  rfl
theorem read_r {nm : Bs} {pos n : Int} (hb : (isName nm && decide (0 ≤ pos) && decide (0 ≤ n)) = true) (hr : (D.beg true).1 ≠ 0) : D.read nm pos n = ([], D.beg true) := by
  unfold Dk.read
  rw [hb]
  simp only
  rw [if_pos hr]
theorem read_n {nm : Bs} {pos n : Int} (hb : (isName nm && decide (0 ≤ pos) && decide (0 ≤ n)) = true) (hr : (D.beg true).1 = 0) (hg : getF nm (D.beg true).2.L = none) : D.read nm pos n = ([], 7, (D.beg true).2) := by
  unfold Dk.read
  rw [hb]
  simp only
  rw [if_neg (by simpa using hr), hg]
theorem read_f {nm : Bs} {pos n : Int} (hb : (isName nm && decide (0 ≤ pos) && decide (0 ≤ n)) = true) (hr : (D.beg true).1 = 0) {f : Fi} (hg : getF nm (D.beg true).2.L = some f) (hc : (f.bs.length : Int) < pos) : D.read nm pos n = ([], 14, (D.beg true).2) := by
  unfold Dk.read
  rw [hb]
  simp only
  rw [if_neg (by simpa using hr), hg]
  simp only
  rw [if_pos hc]
theorem read_o {nm : Bs} {pos n : Int} (hb : (isName nm && decide (0 ≤ pos) && decide (0 ≤ n)) = true) (hr : (D.beg true).1 = 0) {f : Fi} (hg : getF nm (D.beg true).2.L = some f) (hc : ¬ (f.bs.length : Int) < pos) : D.read nm pos n = ((f.bs.drop pos.toNat).take n.toNat, 0, (D.beg true).2) := by
  unfold Dk.read
  rw [hb]
  simp only
  rw [if_neg (by simpa using hr), hg]
  simp only
  rw [if_neg hc]
set_option maxRecDepth 100000 in
set_option maxHeartbeats 2000000 in
theorem read_any (h : DiskAt w p m G D) (ho : D.ops ≤ 1099511627776) {s : ByteArray} (hs : s.size ≤ 9223372036854775807) (pos n : Int) (hp : pos ≤ 9223372036854775807) (hn : n ≤ 9223372036854775807) :
    Calls Tryz.prog 65 #[.pointer (some ⟨p, 0, none⟩), .string s, .int .i64 pos, .int .i64 n] w fun e w' => e = .returned (.tuple #[.string ⟨(D.read (kl s) pos n).1.toArray⟩, .int .i64 (D.read (kl s) pos n).2.1]) ∧ Post w w' p m G D (D.read (kl s) pos n).2.2 := by
  have N1 := name_one w hs
  have hA := h.alloc (.cells #[.string s] 9)
  have g0 := Goes.alloc w (.cells #[.string s] 9) (zone p m G D.L)
  have HL := Lib.hid (beg_L D true).1
  clear h
  by_cases b1 : isName (kl s) = false
  · rw [read_b (by simp [b1])]
    rw [b1] at N1
    clear b1
    have B := reach_no hA ho hs false (by simp [Dk.beg])
    rw [show D.beg false = (1, D) from rfl] at B
    clear hA HL
    go_enter Tryz.func65, Tryz.ntmps65
    go_wp2_with fail
    refine N1.mono ?_
    rintro e w' ⟨rfl, rfl⟩
    go_wp2_with fail
    refine B.mono ?_
    rintro e w2 ⟨rfl, h2, g2⟩
    clear N1 B
    go_wp2
    go_ret2
    exact ⟨rfl, G, h2, g0.trans g2⟩
  have b1 : isName (kl s) = true := by simpa using b1
  rw [b1] at N1
  by_cases b2 : pos < 0
  · rw [read_b (by have : ¬ 0 ≤ pos := by omega
                   simp [this])]
    clear b1
    have b2' : ¬ 0 ≤ pos := by omega
    have B := reach_no hA ho hs false (by simp [Dk.beg])
    rw [show D.beg false = (1, D) from rfl] at B
    clear hA HL
    go_enter Tryz.func65, Tryz.ntmps65
    go_wp2_with fail
    refine N1.mono ?_
    rintro e w' ⟨rfl, rfl⟩
    go_wp2_with fail
    refine B.mono ?_
    rintro e w2 ⟨rfl, h2, g2⟩
    clear N1 B
    go_wp2
    go_ret2
    exact ⟨rfl, G, h2, g0.trans g2⟩
  by_cases b3 : n < 0
  · rw [read_b (by have : ¬ 0 ≤ n := by omega
                   simp [this])]
    clear b1
    have b2' : 0 ≤ pos := by omega
    have b3' : ¬ 0 ≤ n := by omega
    have b4' : decide (0 ≤ n) = false := decide_eq_false b3'
    have B := reach_no hA ho hs false (by simp [Dk.beg])
    rw [show D.beg false = (1, D) from rfl] at B
    clear hA HL
    go_enter Tryz.func65, Tryz.ntmps65
    go_wp2_with fail
    refine N1.mono ?_
    rintro e w' ⟨rfl, rfl⟩
    go_wp2_with fail
    refine B.mono ?_
    rintro e w2 ⟨rfl, h2, g2⟩
    clear N1 B
    go_wp2
    go_ret2
    exact ⟨rfl, G, h2, g0.trans g2⟩
  have hb : (isName (kl s) && decide (0 ≤ pos) && decide (0 ≤ n)) = true := by
    have c2 : 0 ≤ pos := by omega
    have c3 : 0 ≤ n := by omega
    simp [b1, c2, c3]
  clear b1
  have b2' : 0 ≤ pos := by omega
  have b3' : 0 ≤ n := by omega
  have b4' : decide (0 ≤ n) = true := decide_eq_true b3'
  by_cases hr : (D.beg true).1 ≠ 0
  · rw [read_r hb hr]
    have B := reach_no hA ho hs true hr
    clear hA hb
    generalize D.beg true = r at *
    obtain ⟨r1, r2⟩ := r
    simp only at hr B HL ⊢
    go_enter Tryz.func65, Tryz.ntmps65
    go_wp2_with fail
    refine N1.mono ?_
    rintro e w' ⟨rfl, rfl⟩
    go_wp2_with fail
    refine B.mono ?_
    rintro e w2 ⟨rfl, h2, g2⟩
    clear N1 B
    go_wp2
    go_ret2
    exact ⟨rfl, G, h2, by rw [HL.out]; exact g0.trans g2⟩
  have hr : (D.beg true).1 = 0 := by simpa using hr
  cases hg : getF (kl s) (D.beg true).2.L with
  | none =>
    rw [read_n hb hr hg]
    have B := reach_none hA ho hs true hr hg
    clear hA hb hr hg
    generalize (D.beg true).2 = r at *
    go_enter Tryz.func65, Tryz.ntmps65
    go_wp2_with fail
    refine N1.mono ?_
    rintro e w' ⟨rfl, rfl⟩
    go_wp2_with fail
    refine B.mono ?_
    rintro e w2 ⟨rfl, h2, g2⟩
    clear N1 B
    go_wp2
    go_ret2
    exact ⟨rfl, G, h2, by rw [HL.out]; exact g0.trans g2⟩
  | some f =>
    have B := reach_some hA ho hs true hr hg
    clear hA
    obtain ⟨hf, _⟩ := get_some hg
    have CE : ∀ w2, DiskAt w2 p m G (D.beg true).2 → ∃ o cap, w2.cell? ⟨(G f.nm).1, 0, none⟩ = some (.slice o f.bs.length cap) ∧ RowB w2 (.slice o f.bs.length cap) f.bs := by
      intro w2 h2
      have hF := h2.file f hf
      obtain ⟨o, cap, e1, _⟩ := hF.row.form
      have c0 := hF.cell0
      have rw := hF.row
      rw [e1] at c0 rw
      exact ⟨o, cap, c0, rw⟩
    have BL : ∀ w2, DiskAt w2 p m G (D.beg true).2 → f.bs.length ≤ 4194304 := fun w2 h2 => Nat.le_trans (mem_used hf) (used_small h2)
    have CH := Lib.hid CE
    have BH := Lib.hid BL
    clear CE BL hf
    by_cases hc : (f.bs.length : Int) < pos
    · rw [read_f hb hr hg hc]
      clear hb hr hg
      generalize (D.beg true).2 = r at *
      generalize (G f.nm).1 = gb at *
      go_enter Tryz.func65, Tryz.ntmps65
      go_wp2_with fail
      refine N1.mono ?_
      rintro e w' ⟨rfl, rfl⟩
      go_wp2_with fail
      refine B.mono ?_
      rintro e w2 ⟨rfl, h2, g2⟩
      clear N1 B
      obtain ⟨o, cap, c0, _⟩ := CH.out w2 h2
      have H2 := Lib.hid h2
      have G2 := Lib.hid (g0.trans g2)
      clear CH BH h2 g2 g0
      generalize f.bs.length = len at *
      go_wp2
      go_ret2
      exact ⟨rfl, G, H2.out, by rw [HL.out]; exact G2.out⟩
    · rw [read_o hb hr hg hc]
      clear hb hr hg
      generalize (D.beg true).2 = r at *
      generalize (G f.nm).1 = gb at *
      obtain ⟨a, rfl⟩ : ∃ a : Nat, pos = (a : Int) := ⟨pos.toNat, by omega⟩
      obtain ⟨k, rfl⟩ : ∃ k : Nat, n = (k : Int) := ⟨n.toNat, by omega⟩
      rw [Int.toNat_natCast, Int.toNat_natCast]
      go_enter Tryz.func65, Tryz.ntmps65
      go_wp2_with fail
      refine N1.mono ?_
      rintro e w' ⟨rfl, rfl⟩
      go_wp2_with fail
      refine B.mono ?_
      rintro e w2 ⟨rfl, h2, g2⟩
      clear N1 B
      obtain ⟨o, cap, c0, rw0⟩ := CH.out w2 h2
      have bl := BH.out w2 h2
      have ha : a ≤ f.bs.length := by omega
      have hm : min k (f.bs.length - a) ≤ f.bs.length - a := Nat.min_le_right _ _
      obtain ⟨o1, c1, o2, S1, S2, CV⟩ := cut_text rw0 ha hm
      have e3 : (f.bs.drop a).take (min k (f.bs.length - a)) = (f.bs.drop a).take k := by
        rcases Nat.le_total k (f.bs.length - a) with c | c
        · rw [Nat.min_eq_left c]
        · rw [Nat.min_eq_right c, List.take_of_length_le (by simp), List.take_of_length_le (by simp; omega)]
      rw [e3] at CV
      have e4 : ((min k (f.bs.length - a) : Nat) : Int) = min (k : Int) ((f.bs.length - a : Nat) : Int) := by omega
      rw [e4] at S2
      have H2 := Lib.hid h2
      have G2 := Lib.hid (g0.trans g2)
      have nc : ¬ (f.bs.length : Int) < (a : Int) := by omega
      clear CH BH h2 g2 g0 e3 rw0 hc b2 b3 hp hn b2' b3' b4'
      generalize min k (f.bs.length - a) = mk at *
      generalize f.bs.length - a = rest at *
      go_wp2
      go_ret2
      exact ⟨rfl, G, H2.out, by rw [HL.out]; exact G2.out⟩
end
end Go.Proofs.YtdmgobffhpgjlaaGreat.Pk
