/-
  Contracts of Create, Delete, Sync, Rename.
-/
import Derived.Test.YtdmgobffhpgjlaaGreatPkAsk
namespace Go.Proofs.YtdmgobffhpgjlaaGreat.Pk
open Go.RowKit Go.PlainAid Go.Maps
set_option linter.unusedVariables false
set_option maxRecDepth 20000
set_option linter.unusedSimpArgs false

/-- behind a call: the disk is D', and nothing but its own blocks has turned -/
def Post (w w' : World) (p m : Nat) (G : Gs) (D D' : Dk) : Prop := ∃ G', DiskAt w' p m G' D' ∧ Goes w w' (zone p m G D.L) (zone p m G' D'.L)
section
variable {w w' : World} {p m : Nat} {G : Gs} {D : Dk}
theorem DiskAt.putNew (h : DiskAt w p m G D) {f : Fi} {v : Value} {n : Nat} (row : RowB w v f.bs) (hv : ∀ b, v.ownBlock = some b → ¬ zone p m G D.L b) (ok : { D with L := insF f (delF f.nm D.L) }.Ok)
    (hm : w'.ownsMap Tryz.prog 9 RF m n ((datum G D.L).put (.string f.nm) (.lit (.int .i64 (w.heap.size : Int))))) (hg : (w.alloc (.cells #[v, .int .i64 (f.sf : Int)] 89)).grownBy w' (some m)) :
    DiskAt w' p m (setG G f.nm (w.heap.size, v)) { D with L := insF f (delF f.nm D.L) } ∧ (∀ b, zone p m (setG G f.nm (w.heap.size, v)) (insF f (delF f.nm D.L)) b → zone p m G D.L b ∨ v.ownBlock = some b ∨ w.heap.size ≤ b) ∧
      (∀ b, b < w.heap.size → b ≠ m → w'.heap[b]? = w.heap[b]?) ∧ w.heap.size ≤ w'.heap.size ∧ w'.os = w.os ∧ w'.tape = w.tape ∧ w'.output = w.output := by
  have hb : ∀ b, b < w.heap.size → b ≠ m → w'.heap[b]? = w.heap[b]? := fun b hb hne => (hg.block b (by simp; omega) (fun e => hne (Option.some.inj e))).trans (Below.heap_alloc _ _ _ hb)
  have hml := h.map.lt
  have hnew : w'.heap[w.heap.size]? = some (.cells #[v, .int .i64 (f.sf : Int)] 89 (0, 0)) := (hg.block _ (by simp) (fun e => by have := Option.some.inj e; omega)).trans (heap_alloc_new w _)
  have hvm : ∀ b, v.ownBlock = some b → b < w.heap.size := fun b hb => by
    obtain ⟨cur, fr, hc⟩ := row_block row hb
    exact in_heap hc
  have hz : ∀ b, zone p m G (delF f.nm D.L) b → zone p m G D.L b := zone_del f.nm
  refine ⟨h.put hm ok ⟨hnew, row_same row fun b hb' => hb b (hvm b hb') fun e => hv b hb' (.inr (.inl e))⟩ (fun b hb' hne => hb b (h.lt (hz b hb')) hne) ?_ ?_, ?_, hb, ?_, hg.os, hg.tape, hg.output⟩
  · intro x hx e
    have := h.lt (.inr (.inr ⟨x, (mem_del.1 hx).1, .inl rfl⟩))
    omega
  · intro b hb' x hx e
    exact hv b hb' (.inr (.inr ⟨x, (mem_del.1 hx).1, .inr e⟩))
  · intro b hb'
    rcases zone_put b hb' with c | c | c
    · exact .inl c
    · exact .inr (.inr (Nat.le_of_eq c.symm))
    · exact .inr (.inl c)
  · have := hg.size
    simp at this
    omega
theorem RowB.nil (w : World) : RowB w (.slice none 0 0) [] := .inl ⟨rfl, rfl⟩
theorem create_r {nm : Bs} (hr : (D.beg (isName nm)).1 ≠ 0) : D.create nm = D.beg (isName nm) := by
  unfold Dk.create
  simp only
  rw [if_pos hr]
theorem create_t {nm : Bs} (hr : (D.beg (isName nm)).1 = 0) {f : Fi} (hg : getF nm (D.beg (isName nm)).2.L = some f) : D.create nm = (9, (D.beg (isName nm)).2) := by
  unfold Dk.create
  simp only
  rw [if_neg (by simpa using hr), hg]
  rfl
theorem create_f {nm : Bs} (hr : (D.beg (isName nm)).1 = 0) (hg : getF nm (D.beg (isName nm)).2.L = none) (hn : 200 ≤ (D.beg (isName nm)).2.L.length) : D.create nm = (6, (D.beg (isName nm)).2) := by
  unfold Dk.create
  simp only
  rw [if_neg (by simpa using hr), hg, if_neg (by simp), if_pos hn]
theorem create_o {nm : Bs} (hr : (D.beg (isName nm)).1 = 0) (hg : getF nm (D.beg (isName nm)).2.L = none) (hn : ¬ 200 ≤ (D.beg (isName nm)).2.L.length) : D.create nm = (0, { (D.beg (isName nm)).2 with L := insF ⟨nm, [], 0⟩ (D.beg (isName nm)).2.L }) := by
  unfold Dk.create
  simp only
  rw [if_neg (by simpa using hr), hg, if_neg (by simp), if_neg hn]
theorem beg_good {g : Bool} (h : (D.beg g).1 = 0) : g = true := by
  unfold Dk.beg at h
  cases g
  · simp at h
  · rfl
set_option maxRecDepth 100000 in
set_option maxHeartbeats 2000000 in
theorem create_any (h : DiskAt w p m G D) (ho : D.ops ≤ 1099511627776) {s : ByteArray} (hs : s.size ≤ 9223372036854775807) :
    Calls Tryz.prog 64 #[.pointer (some ⟨p, 0, none⟩), .string s] w fun e w' => e = .returned (.int .i64 (D.create (kl s)).1) ∧ Post w w' p m G D (D.create (kl s)).2 := by
  have N1 := name_one w hs
  have B := begin_any (h.alloc (.cells #[.string s] 9)) ho (isName (kl s))
  have g0 := Goes.alloc w (.cells #[.string s] 9) (zone p m G D.L)
  have HL := Lib.hid (beg_L D (isName (kl s))).1
  clear h
  by_cases hr : (D.beg (isName (kl s))).1 ≠ 0
  · rw [create_r hr]
    generalize (D.beg (isName (kl s))) = r at *
    obtain ⟨r1, r2⟩ := r
    simp only at hr B HL ⊢
    generalize isName (kl s) = good at *
    go_enter Tryz.func64, Tryz.ntmps64
    go_wp2_with fail
    refine N1.mono ?_
    rintro e w' ⟨rfl, rfl⟩
    go_wp2_with fail
    refine B.mono ?_
    rintro e w2 ⟨rfl, h2, g2⟩
    clear N1 B
    go_wp2
    go_ret
    exact ⟨rfl, G, h2, by rw [HL.out]; exact g0.trans g2⟩
  · have hr : (D.beg (isName (kl s))).1 = 0 := by simpa using hr
    have hgd := beg_good hr
    rw [hr] at B
    cases hg : getF (kl s) (D.beg (isName (kl s))).2.L with
    | some f =>
      rw [create_t hr hg]
      generalize (D.beg (isName (kl s))).2 = r at *
      generalize isName (kl s) = good at *
      clear hr hgd
      have LK := Lib.hid fun w' (h' : DiskAt w' p m G r) => h'.look hs
      rw [hg] at LK
      simp only [fp, Option.map_some] at LK
      generalize (G f.nm).1 = gb at *
      go_enter Tryz.func64, Tryz.ntmps64
      go_wp2_with fail
      refine N1.mono ?_
      rintro e w' ⟨rfl, rfl⟩
      go_wp2_with fail
      refine B.mono ?_
      rintro e w2 ⟨rfl, h2, g2⟩
      clear N1 B
      have c1 := h2.hand
      have l1 := LK.out w2 h2
      have H2 := Lib.hid h2
      have G2 := Lib.hid (g0.trans g2)
      clear h2 g2 g0 LK
      go_wp2
      go_ret
      exact ⟨rfl, G, H2.out, by rw [HL.out]; exact G2.out⟩
    | none =>
      have LK := Lib.hid fun w' (h' : DiskAt w' p m G (D.beg (isName (kl s))).2) => h'.look hs
      rw [hg] at LK
      simp only [fp, Option.map_none] at LK
      have LN := Lib.hid fun w' (h' : DiskAt w' p m G (D.beg (isName (kl s))).2) ty => h'.map.len Tryz.underlying70 ty
      simp only [datum_size] at LN
      by_cases hn : 200 ≤ (D.beg (isName (kl s))).2.L.length
      · rw [create_f hr hg hn]
        generalize (D.beg (isName (kl s))).2 = r at *
        generalize isName (kl s) = good at *
        clear hr hgd
        have n1 : (200 : Int) ≤ (r.L.length : Int) := by omega
        go_enter Tryz.func64, Tryz.ntmps64
        go_wp2_with fail
        refine N1.mono ?_
        rintro e w' ⟨rfl, rfl⟩
        go_wp2_with fail
        refine B.mono ?_
        rintro e w2 ⟨rfl, h2, g2⟩
        clear N1 B
        have c1 := h2.hand
        have l1 := LK.out w2 h2
        have l2 := LN.out w2 h2
        have H2 := Lib.hid h2
        have G2 := Lib.hid (g0.trans g2)
        clear h2 g2 g0 LK LN
        go_wp2
        go_ret
        exact ⟨rfl, G, H2.out, by rw [HL.out]; exact G2.out⟩
      · rw [create_o hr hg hn]
        generalize (D.beg (isName (kl s))).2 = r at *
        have n1 : ¬ (200 : Int) ≤ (r.L.length : Int) := by omega
        have dn := del_none (get_none hg)
        have FIN : ∀ w2, DiskAt w2 p m G r → ∀ w3 n, w3.ownsMap Tryz.prog 9 RF m n ((datum G r.L).put (.string (kl s)) (.lit (.int .i64 (w2.heap.size : Int)))) → (w2.alloc (.cells #[.slice none 0 0, .int .i64 0] 89)).grownBy w3 (some m) → Goes w w2 (zone p m G D.L) (zone p m G D.L) →
            Post w w3 p m G D { r with L := insF ⟨kl s, [], 0⟩ r.L } := by
          intro w2 h2 w3 n hm hgr g2
          have ok : { r with L := insF ⟨kl s, [], 0⟩ (delF (kl s) r.L) }.Ok := by
            rw [dn]
            exact h2.ok.ins (by simpa using hgd) (by simp) (get_none hg) (by simpa using h2.ok.used) (by omega)
          obtain ⟨k1, k2, k3, k4, k5, k6, k7⟩ := h2.putNew (f := ⟨kl s, [], 0⟩) (v := .slice none 0 0) (RowB.nil w2) (by simp [Value.ownBlock]) ok hm hgr
          refine ⟨_, by rw [dn] at k1; exact k1, ?_⟩
          refine g2.trans ⟨k5, k6, k7, k4, fun b hb hz => k3 b hb fun e => hz (.inr (.inl e)), fun b hb => ?_⟩
          rw [dn] at k2
          rcases k2 b hb with c | c | c
          · exact .inl (by rw [← HL.out]; exact c)
          · simp [Value.ownBlock] at c
          · exact .inr c
        have FH := Lib.hid FIN
        clear FIN dn hg hgd hr hn
        generalize isName (kl s) = good at *
        have hkey := keyN hs
        go_enter Tryz.func64, Tryz.ntmps64
        go_wp2_with fail
        refine N1.mono ?_
        rintro e w' ⟨rfl, rfl⟩
        go_wp2_with fail
        refine B.mono ?_
        rintro e w2 ⟨rfl, h2, g2⟩
        clear N1 B
        have c1 := h2.hand
        have l1 := LK.out w2 h2
        have l2 := LN.out w2 h2
        have hown := h2.map
        have F2 := Lib.hid (FH.out w2 h2)
        have G2 := Lib.hid (g0.trans g2)
        clear h2 g2 g0 LK LN FH
        have oc : (w2.alloc (.cells #[.slice none 0 0, .int .i64 0] 89)).ownsMap Tryz.prog 9 RF m r.L.length (datum G r.L) := hown.alloc _
        clear hown
        go_wp2_with (first | (at_mapUpdate; refine wpList_mapUpdate_own _ rfl _ _ _ 70 rfl 9 86 kname Tryz.underlying70 _ m r.L.length _ rfl oc (by unfold maxLen; omega) _ _ _ rfl rfl hkey _ [] (RF_ptr _) ?_; intro w3 ho3 hg3))
        go_ret
        exact ⟨rfl, F2.out w3 _ ho3 hg3 G2.out⟩
end
end Go.Proofs.YtdmgobffhpgjlaaGreat.Pk
