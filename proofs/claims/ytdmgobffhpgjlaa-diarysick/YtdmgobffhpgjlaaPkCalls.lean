/-
  Contracts of Create, Delete, Sync, Rename.
  Contracts of Delete, Sync and Append.
  A row of bytes cut behind and ahead.
  Contracts of Rename and Read.
  Contracts of Flip and Lay.
  Contract of On: the power comes again; of each file that has unsafe bytes as many are kept as the numbers say.
  A disk of a law's own: it lies apart from what was there ahead of the law. The calls, told of such a disk; the law's first look.
-/
import Derived.Test.YtdmgobffhpgjlaaPkBase
import Derived.Laws.BitsAllLaws
section
namespace Go.Proofs.Ytdmgobffhpgjlaa.Pk
open Go.RowKit Go.PlainAid Go.Maps
set_option linter.unusedVariables false
set_option maxRecDepth 20000
set_option linter.unusedSimpArgs false

/-- behind a call: the disk is D', and nothing but its own blocks has turned -/
def Post (w w' : World) (p m : Nat) (G : Gs) (D D' : Dk) : Prop := ∃ G', DiskAt w' p m G' D' ∧ Goes w w' (zone p m G D.L) (zone p m G' D'.L)
section
variable {w w' : World} {p m : Nat} {G : Gs} {D : Dk}
theorem DiskAt.putNew (h : DiskAt w p m G D) {f : Fi} {v : Value} {n : Nat} (row : RowB w v f.bs) (hv : ∀ b, v.ownBlock = some b → ¬ zone p m G D.L b) (ok : { D with L := insF f (delF f.nm D.L) }.Ok)
    (hm : w'.ownsMap Try.prog 9 RF m n ((datum G D.L).put (.string f.nm) (.lit (.int .i64 (w.heap.size : Int))))) (hg : (w.alloc (.cells #[v, .int .i64 (f.sf : Int)] 75)).grownBy w' (some m)) :
    DiskAt w' p m (setG G f.nm (w.heap.size, v)) { D with L := insF f (delF f.nm D.L) } ∧ (∀ b, zone p m (setG G f.nm (w.heap.size, v)) (insF f (delF f.nm D.L)) b → zone p m G D.L b ∨ v.ownBlock = some b ∨ w.heap.size ≤ b) ∧
      (∀ b, b < w.heap.size → b ≠ m → w'.heap[b]? = w.heap[b]?) ∧ w.heap.size ≤ w'.heap.size ∧ w'.os = w.os ∧ w'.tape = w.tape ∧ w'.output = w.output := by
  have hb : ∀ b, b < w.heap.size → b ≠ m → w'.heap[b]? = w.heap[b]? := fun b hb hne => (hg.block b (by simp; omega) (fun e => hne (Option.some.inj e))).trans (Below.heap_alloc _ _ _ hb)
  have hml := h.map.lt
  have hnew : w'.heap[w.heap.size]? = some (.cells #[v, .int .i64 (f.sf : Int)] 75 (0, 0)) := (hg.block _ (by simp) (fun e => by have := Option.some.inj e; omega)).trans (heap_alloc_new w _)
  have hvm : ∀ b, v.ownBlock = some b → b < w.heap.size := fun b hb => by
    obtain ⟨cur, fr, hc⟩ := row_block row hb
    exact in_heap hc
  have hz : ∀ b, zone p m G (delF f.nm D.L) b → zone p m G D.L b := zone_del f.nm
  refine ⟨h.put hm ok ⟨hnew, row_same row fun b hb' => hb b (hvm b hb') fun e => hv b hb' (.inr (.inl e))⟩ (fun b hb' hne => hb b (h.lt (hz b hb')) hne) ?_ ?_, ?_, hb, ?_, hg.os, hg.tape, hg.output⟩
  · intro x hx e
    have := h.lt (.inr (.inr ⟨x, (mem_del.1 hx).1, .inl rfl⟩))
    omega
  · intro b hb' x hx e
    exact hv b hb' (.inr (.inr ⟨x, (mem_del.1 hx).1, .inr e⟩))
  · intro b hb'
    rcases zone_put b hb' with c | c | c
    · exact .inl c
    · exact .inr (.inr (Nat.le_of_eq c.symm))
    · exact .inr (.inl c)
  · have := hg.size
    simp at this
    omega
theorem RowB.nil (w : World) : RowB w (.slice none 0 0) [] := .inl ⟨rfl, rfl⟩
theorem create_r {nm : Bs} (hr : (D.beg (isName nm)).1 ≠ 0) : D.create nm = D.beg (isName nm) := by
  unfold Dk.create
  simp only
  rw [if_pos hr]
theorem create_t {nm : Bs} (hr : (D.beg (isName nm)).1 = 0) {f : Fi} (hg : getF nm (D.beg (isName nm)).2.L = some f) : D.create nm = (9, (D.beg (isName nm)).2) := by
  unfold Dk.create
  simp only
  rw [if_neg (by simpa using hr), hg]
  rfl
theorem create_f {nm : Bs} (hr : (D.beg (isName nm)).1 = 0) (hg : getF nm (D.beg (isName nm)).2.L = none) (hn : 200 ≤ (D.beg (isName nm)).2.L.length) : D.create nm = (6, (D.beg (isName nm)).2) := by
  unfold Dk.create
  simp only
  rw [if_neg (by simpa using hr), hg, if_neg (by simp), if_pos hn]
theorem create_o {nm : Bs} (hr : (D.beg (isName nm)).1 = 0) (hg : getF nm (D.beg (isName nm)).2.L = none) (hn : ¬ 200 ≤ (D.beg (isName nm)).2.L.length) : D.create nm = (0, { (D.beg (isName nm)).2 with L := insF ⟨nm, [], 0⟩ (D.beg (isName nm)).2.L }) := by
  unfold Dk.create
  simp only
  rw [if_neg (by simpa using hr), hg, if_neg (by simp), if_neg hn]
theorem beg_good {g : Bool} (h : (D.beg g).1 = 0) : g = true := by
  unfold Dk.beg at h
  cases g
  · simp at h
  · rfl
set_option maxRecDepth 100000 in
set_option maxHeartbeats 2000000 in
theorem create_any (h : DiskAt w p m G D) (ho : D.ops ≤ 1099511627776) {s : ByteArray} (hs : s.size ≤ 9223372036854775807) :
    Calls Try.prog 38 #[.pointer (some ⟨p, 0, none⟩), .string s] w fun e w' => e = .returned (.int .i64 (D.create (kl s)).1) ∧ Post w w' p m G D (D.create (kl s)).2 := by
  have N1 := name_one w hs
  have B := begin_any (h.alloc (.cells #[.string s] 9)) ho (isName (kl s))
  have g0 := Goes.alloc w (.cells #[.string s] 9) (zone p m G D.L)
  have HL := Lib.hid (beg_L D (isName (kl s))).1
  clear h
  by_cases hr : (D.beg (isName (kl s))).1 ≠ 0
  · rw [create_r hr]
    generalize (D.beg (isName (kl s))) = r at *
    obtain ⟨r1, r2⟩ := r
    simp only at hr B HL ⊢
    generalize isName (kl s) = good at *
    go_enter Try.func38, Try.ntmps38
    go_wp2_with fail
    refine N1.mono ?_
    rintro e w' ⟨rfl, rfl⟩
    go_wp2_with fail
    refine B.mono ?_
    rintro e w2 ⟨rfl, h2, g2⟩
    clear N1 B
    go_wp2
    go_ret
    exact ⟨rfl, G, h2, by rw [HL.out]; exact g0.trans g2⟩
  · have hr : (D.beg (isName (kl s))).1 = 0 := by simpa using hr
    have hgd := beg_good hr
    rw [hr] at B
    cases hg : getF (kl s) (D.beg (isName (kl s))).2.L with
    | some f =>
      rw [create_t hr hg]
      generalize (D.beg (isName (kl s))).2 = r at *
      generalize isName (kl s) = good at *
      clear hr hgd
      have LK := Lib.hid fun w' (h' : DiskAt w' p m G r) => h'.look hs
      rw [hg] at LK
      simp only [fp, Option.map_some] at LK
      generalize (G f.nm).1 = gb at *
      go_enter Try.func38, Try.ntmps38
      go_wp2_with fail
      refine N1.mono ?_
      rintro e w' ⟨rfl, rfl⟩
      go_wp2_with fail
      refine B.mono ?_
      rintro e w2 ⟨rfl, h2, g2⟩
      clear N1 B
      have c1 := h2.hand
      have l1 := LK.out w2 h2
      have H2 := Lib.hid h2
      have G2 := Lib.hid (g0.trans g2)
      clear h2 g2 g0 LK
      go_wp2
      go_ret
      exact ⟨rfl, G, H2.out, by rw [HL.out]; exact G2.out⟩
    | none =>
      have LK := Lib.hid fun w' (h' : DiskAt w' p m G (D.beg (isName (kl s))).2) => h'.look hs
      rw [hg] at LK
      simp only [fp, Option.map_none] at LK
      have LN := Lib.hid fun w' (h' : DiskAt w' p m G (D.beg (isName (kl s))).2) ty => h'.map.len Try.underlying53 ty
      simp only [datum_size] at LN
      by_cases hn : 200 ≤ (D.beg (isName (kl s))).2.L.length
      · rw [create_f hr hg hn]
        generalize (D.beg (isName (kl s))).2 = r at *
        generalize isName (kl s) = good at *
        clear hr hgd
        have n1 : (200 : Int) ≤ (r.L.length : Int) := by omega
        go_enter Try.func38, Try.ntmps38
        go_wp2_with fail
        refine N1.mono ?_
        rintro e w' ⟨rfl, rfl⟩
        go_wp2_with fail
        refine B.mono ?_
        rintro e w2 ⟨rfl, h2, g2⟩
        clear N1 B
        have c1 := h2.hand
        have l1 := LK.out w2 h2
        have l2 := LN.out w2 h2
        have H2 := Lib.hid h2
        have G2 := Lib.hid (g0.trans g2)
        clear h2 g2 g0 LK LN
        go_wp2
        go_ret
        exact ⟨rfl, G, H2.out, by rw [HL.out]; exact G2.out⟩
      · rw [create_o hr hg hn]
        generalize (D.beg (isName (kl s))).2 = r at *
        have n1 : ¬ (200 : Int) ≤ (r.L.length : Int) := by omega
        have dn := del_none (get_none hg)
        have FIN : ∀ w2, DiskAt w2 p m G r → ∀ w3 n, w3.ownsMap Try.prog 9 RF m n ((datum G r.L).put (.string (kl s)) (.lit (.int .i64 (w2.heap.size : Int)))) → (w2.alloc (.cells #[.slice none 0 0, .int .i64 0] 75)).grownBy w3 (some m) → Goes w w2 (zone p m G D.L) (zone p m G D.L) →
            Post w w3 p m G D { r with L := insF ⟨kl s, [], 0⟩ r.L } := by
          intro w2 h2 w3 n hm hgr g2
          have ok : { r with L := insF ⟨kl s, [], 0⟩ (delF (kl s) r.L) }.Ok := by
            rw [dn]
            exact h2.ok.ins (by simpa using hgd) (by simp) (get_none hg) (by simpa using h2.ok.used) (by omega)
          obtain ⟨k1, k2, k3, k4, k5, k6, k7⟩ := h2.putNew (f := ⟨kl s, [], 0⟩) (v := .slice none 0 0) (RowB.nil w2) (by simp [Value.ownBlock]) ok hm hgr
          refine ⟨_, by rw [dn] at k1; exact k1, ?_⟩
          refine g2.trans ⟨k5, k6, k7, k4, fun b hb hz => k3 b hb fun e => hz (.inr (.inl e)), fun b hb => ?_⟩
          rw [dn] at k2
          rcases k2 b hb with c | c | c
          · exact .inl (by rw [← HL.out]; exact c)
          · simp [Value.ownBlock] at c
          · exact .inr c
        have FH := Lib.hid FIN
        clear FIN dn hg hgd hr hn
        generalize isName (kl s) = good at *
        have hkey := keyN hs
        go_enter Try.func38, Try.ntmps38
        go_wp2_with fail
        refine N1.mono ?_
        rintro e w' ⟨rfl, rfl⟩
        go_wp2_with fail
        refine B.mono ?_
        rintro e w2 ⟨rfl, h2, g2⟩
        clear N1 B
        have c1 := h2.hand
        have l1 := LK.out w2 h2
        have l2 := LN.out w2 h2
        have hown := h2.map
        have F2 := Lib.hid (FH.out w2 h2)
        have G2 := Lib.hid (g0.trans g2)
        clear h2 g2 g0 LK LN FH
        have oc : (w2.alloc (.cells #[.slice none 0 0, .int .i64 0] 75)).ownsMap Try.prog 9 RF m r.L.length (datum G r.L) := hown.alloc _
        clear hown
        go_wp2_with (first | (at_mapUpdate; refine wpList_mapUpdate_own _ rfl _ _ _ 53 rfl 9 72 kname Try.underlying53 _ m r.L.length _ rfl oc (by unfold maxLen; omega) _ _ _ rfl rfl hkey _ [] (RF_ptr _) ?_; intro w3 ho3 hg3))
        go_ret
        exact ⟨rfl, F2.out w3 _ ho3 hg3 G2.out⟩
end
end Go.Proofs.Ytdmgobffhpgjlaa.Pk
end

section
namespace Go.Proofs.Ytdmgobffhpgjlaa.Pk
open Go.RowKit Go.PlainAid Go.Maps
set_option linter.unusedVariables false
set_option maxRecDepth 20000
set_option linter.unusedSimpArgs false

section
variable {w w' : World} {p m : Nat} {G : Gs} {D : Dk}
theorem delete_r {nm : Bs} (hr : (D.beg (isName nm)).1 ≠ 0) : D.delete nm = D.beg (isName nm) := by
  unfold Dk.delete
  simp only
  rw [if_pos hr]
theorem delete_n {nm : Bs} (hr : (D.beg (isName nm)).1 = 0) (hg : getF nm (D.beg (isName nm)).2.L = none) : D.delete nm = (7, (D.beg (isName nm)).2) := by
  unfold Dk.delete
  simp only
  rw [if_neg (by simpa using hr), hg]
theorem delete_s {nm : Bs} (hr : (D.beg (isName nm)).1 = 0) {f : Fi} (hg : getF nm (D.beg (isName nm)).2.L = some f) : D.delete nm = (0, { (D.beg (isName nm)).2 with L := delF nm (D.beg (isName nm)).2.L }) := by
  unfold Dk.delete
  simp only
  rw [if_neg (by simpa using hr), hg]
set_option maxRecDepth 100000 in
set_option maxHeartbeats 2000000 in
theorem delete_any (h : DiskAt w p m G D) (ho : D.ops ≤ 1099511627776) {s : ByteArray} (hs : s.size ≤ 9223372036854775807) :
    Calls Try.prog 55 #[.pointer (some ⟨p, 0, none⟩), .string s] w fun e w' => e = .returned (.int .i64 (D.delete (kl s)).1) ∧ Post w w' p m G D (D.delete (kl s)).2 := by
  have N1 := name_one w hs
  have hA := h.alloc (.cells #[.string s] 9)
  have g0 := Goes.alloc w (.cells #[.string s] 9) (zone p m G D.L)
  have HL := Lib.hid (beg_L D (isName (kl s))).1
  clear h
  by_cases hr : (D.beg (isName (kl s))).1 ≠ 0
  · rw [delete_r hr]
    have B := reach_no hA ho hs (isName (kl s)) hr
    clear hA
    generalize D.beg (isName (kl s)) = r at *
    obtain ⟨r1, r2⟩ := r
    simp only at hr B HL ⊢
    generalize isName (kl s) = good at *
    go_enter Try.func55, Try.ntmps55
    go_wp2_with fail
    refine N1.mono ?_
    rintro e w' ⟨rfl, rfl⟩
    go_wp2_with fail
    refine B.mono ?_
    rintro e w2 ⟨rfl, h2, g2⟩
    clear N1 B
    go_wp2
    go_ret
    exact ⟨rfl, G, h2, by rw [HL.out]; exact g0.trans g2⟩
  have hr : (D.beg (isName (kl s))).1 = 0 := by simpa using hr
  have hgd := beg_good hr
  cases hg : getF (kl s) (D.beg (isName (kl s))).2.L with
  | none =>
    rw [delete_n hr hg]
    have B := reach_none hA ho hs (isName (kl s)) hr hg
    clear hA hgd hr hg
    generalize (D.beg (isName (kl s))).2 = r at *
    generalize isName (kl s) = good at *
    go_enter Try.func55, Try.ntmps55
    go_wp2_with fail
    refine N1.mono ?_
    rintro e w' ⟨rfl, rfl⟩
    go_wp2_with fail
    refine B.mono ?_
    rintro e w2 ⟨rfl, h2, g2⟩
    clear N1 B
    go_wp2
    go_ret
    exact ⟨rfl, G, h2, by rw [HL.out]; exact g0.trans g2⟩
  | some f =>
    have B := reach_some hA ho hs (isName (kl s)) hr hg
    clear hA
    obtain ⟨hf, hn⟩ := get_some hg
    rw [delete_s hr hg]
    clear hgd hr hg
    generalize (D.beg (isName (kl s))).2 = r at *
    generalize (G f.nm).1 = gb at *
    have FIN : ∀ w2, DiskAt w2 p m G r → ∀ w3, w3.ownsMap Try.prog 9 RF m r.L.length ((datum G r.L).del (.string (kl s))) → w2.mapTurned w3 m → Goes w w2 (zone p m G D.L) (zone p m G D.L) → Post w w3 p m G D { r with L := delF (kl s) r.L } := by
      intro w2 h2 w3 hm ht g2
      have hg := ht.grown
      refine ⟨G, h2.del (kl s) hm fun b hb hne => hg.block b hb fun e => hne (Option.some.inj e), g2.trans ⟨hg.os, hg.tape, hg.output, hg.size, fun b hb hz => hg.block b hb fun e => hz (.inr (.inl (Option.some.inj e))), fun b hb => .inl ?_⟩⟩
      have := zone_del (kl s) b hb
      rw [HL.out] at this
      exact this
    have FH := Lib.hid FIN
    have hkey := keyN hs
    clear FIN hf hn
    generalize isName (kl s) = good at *
    go_enter Try.func55, Try.ntmps55
    go_wp2_with fail
    refine N1.mono ?_
    rintro e w' ⟨rfl, rfl⟩
    go_wp2_with fail
    refine B.mono ?_
    rintro e w2 ⟨rfl, h2, g2⟩
    clear N1 B
    have c1 := h2.hand
    have hown := h2.map
    have F2 := Lib.hid (FH.out w2 h2)
    have G2 := Lib.hid (g0.trans g2)
    clear h2 g2 g0 FH
    go_wp2_with (first | (at_delete; refine wpList_delete_own _ rfl _ _ 53 9 rfl 72 kname Try.underlying53 _ m _ _ rfl hown _ _ rfl hkey ?_; intro w3 ho3 ht3))
    go_ret
    exact ⟨rfl, F2.out w3 ho3 ht3 G2.out⟩
theorem sync_r {nm : Bs} (hr : (D.beg (isName nm)).1 ≠ 0) : D.sync nm = D.beg (isName nm) := by
  unfold Dk.sync
  simp only
  rw [if_pos hr]
theorem sync_n {nm : Bs} (hr : (D.beg (isName nm)).1 = 0) (hg : getF nm (D.beg (isName nm)).2.L = none) : D.sync nm = (7, (D.beg (isName nm)).2) := by
  unfold Dk.sync
  simp only
  rw [if_neg (by simpa using hr), hg]
theorem sync_s {nm : Bs} (hr : (D.beg (isName nm)).1 = 0) {f : Fi} (hg : getF nm (D.beg (isName nm)).2.L = some f) : D.sync nm = (0, { (D.beg (isName nm)).2 with L := updF nm ⟨nm, f.bs, f.bs.length⟩ (D.beg (isName nm)).2.L }) := by
  unfold Dk.sync
  simp only
  rw [if_neg (by simpa using hr), hg]
set_option maxRecDepth 100000 in
set_option maxHeartbeats 2000000 in
theorem sync_any (h : DiskAt w p m G D) (ho : D.ops ≤ 1099511627776) {s : ByteArray} (hs : s.size ≤ 9223372036854775807) :
    Calls Try.prog 30 #[.pointer (some ⟨p, 0, none⟩), .string s] w fun e w' => e = .returned (.int .i64 (D.sync (kl s)).1) ∧ Post w w' p m G D (D.sync (kl s)).2 := by
  have N1 := name_one w hs
  have hA := h.alloc (.cells #[.string s] 9)
  have g0 := Goes.alloc w (.cells #[.string s] 9) (zone p m G D.L)
  have HL := Lib.hid (beg_L D (isName (kl s))).1
  clear h
  by_cases hr : (D.beg (isName (kl s))).1 ≠ 0
  · rw [sync_r hr]
    have B := reach_no hA ho hs (isName (kl s)) hr
    clear hA
    generalize D.beg (isName (kl s)) = r at *
    obtain ⟨r1, r2⟩ := r
    simp only at hr B HL ⊢
    generalize isName (kl s) = good at *
    go_enter Try.func30, Try.ntmps30
    go_wp2_with fail
    refine N1.mono ?_
    rintro e w' ⟨rfl, rfl⟩
    go_wp2_with fail
    refine B.mono ?_
    rintro e w2 ⟨rfl, h2, g2⟩
    clear N1 B
    go_wp2
    go_ret
    exact ⟨rfl, G, h2, by rw [HL.out]; exact g0.trans g2⟩
  have hr : (D.beg (isName (kl s))).1 = 0 := by simpa using hr
  have hgd := beg_good hr
  cases hg : getF (kl s) (D.beg (isName (kl s))).2.L with
  | none =>
    rw [sync_n hr hg]
    have B := reach_none hA ho hs (isName (kl s)) hr hg
    clear hA hgd hr hg
    generalize (D.beg (isName (kl s))).2 = r at *
    generalize isName (kl s) = good at *
    go_enter Try.func30, Try.ntmps30
    go_wp2_with fail
    refine N1.mono ?_
    rintro e w' ⟨rfl, rfl⟩
    go_wp2_with fail
    refine B.mono ?_
    rintro e w2 ⟨rfl, h2, g2⟩
    clear N1 B
    go_wp2
    go_ret
    exact ⟨rfl, G, h2, by rw [HL.out]; exact g0.trans g2⟩
  | some f =>
    have B := reach_some hA ho hs (isName (kl s)) hr hg
    clear hA
    obtain ⟨hf, hn⟩ := get_some hg
    rw [sync_s hr hg]
    clear hgd hr hg
    generalize (D.beg (isName (kl s))).2 = r at *
    have FIN : ∀ w2, DiskAt w2 p m G r → Goes w w2 (zone p m G D.L) (zone p m G D.L) → Post w (w2.setCell ⟨(G f.nm).1, 1, none⟩ (.int .i64 (f.bs.length : Int))) p m G D { r with L := updF (kl s) ⟨kl s, f.bs, f.bs.length⟩ r.L } := by
      intro w2 h2 g2
      have hF := h2.file f hf
      rw [← hn]
      have k := h2.setFile (w' := w2.setCell ⟨(G f.nm).1, 1, none⟩ (.int .i64 (f.bs.length : Int))) hf (g := ⟨f.nm, f.bs, f.bs.length⟩) (v := (G f.nm).2) rfl (h2.ok.upd hf rfl (Nat.le_refl _) (by have := h2.ok.used; simp; omega))
        ⟨heap_set _ _ _ _ _ _ _ hF.st, row_same hF.row fun b hb => Below.heap_setCell _ _ _ _ fun e => h2.gr hf hf hb e.symm⟩ (fun b _ hb _ => Below.heap_setCell _ _ _ _ hb) (fun b hb => .inl hb)
      have z := zone_setFile h2 hf (g := ⟨f.nm, f.bs, f.bs.length⟩) (v := (G f.nm).2) rfl (fun b hb => .inl hb)
      refine ⟨_, k, g2.trans ⟨rfl, rfl, rfl, by simp, fun b hb hz => Below.heap_setCell _ _ _ _ fun e => hz (.inr (.inr ⟨f, by rw [← HL.out]; exact hf, .inl e⟩)), fun b hb => ?_⟩⟩
      have := z b hb
      rw [HL.out] at this
      exact this
    have FH := Lib.hid FIN
    have CE : ∀ w2, DiskAt w2 p m G r → ∃ o cap, w2.cell? ⟨(G f.nm).1, 0, none⟩ = some (.slice o f.bs.length cap) ∧ w2.cell? ⟨(G f.nm).1, 1, none⟩ = some (.int .i64 (f.sf : Int)) ∧ w2.frozen? ⟨(G f.nm).1, 1, none⟩ = false := by
      intro w2 h2
      have hF := h2.file f hf
      obtain ⟨o, cap, e1, _⟩ := hF.row.form
      have c0 := hF.cell0
      rw [e1] at c0
      exact ⟨o, cap, c0, hF.cell1, hF.frozen 1⟩
    have CH := Lib.hid CE
    clear FIN CE hf hn
    generalize (G f.nm).1 = gb at *
    generalize f.bs.length = n at *
    generalize isName (kl s) = good at *
    go_enter Try.func30, Try.ntmps30
    go_wp2_with fail
    refine N1.mono ?_
    rintro e w' ⟨rfl, rfl⟩
    go_wp2_with fail
    refine B.mono ?_
    rintro e w2 ⟨rfl, h2, g2⟩
    clear N1 B
    obtain ⟨o, cap, c0, c1, f1⟩ := CH.out w2 h2
    have F2 := Lib.hid (FH.out w2 h2 (g0.trans g2))
    clear h2 g2 g0 FH CH
    go_wp2
    go_ret
    exact ⟨rfl, F2.out⟩
theorem append_r {nm a : Bs} (hr : (D.beg (isName nm)).1 ≠ 0) : D.append nm a = D.beg (isName nm) := by
  unfold Dk.append
  simp only
  rw [if_pos hr]
theorem append_n {nm a : Bs} (hr : (D.beg (isName nm)).1 = 0) (hg : getF nm (D.beg (isName nm)).2.L = none) : D.append nm a = (7, (D.beg (isName nm)).2) := by
  unfold Dk.append
  simp only
  rw [if_neg (by simpa using hr), hg]
theorem append_f {nm a : Bs} (hr : (D.beg (isName nm)).1 = 0) {f : Fi} (hg : getF nm (D.beg (isName nm)).2.L = some f) (hc : (D.beg (isName nm)).2.room < (usedF (D.beg (isName nm)).2.L : Int) + (a.length : Int)) : D.append nm a = (6, (D.beg (isName nm)).2) := by
  unfold Dk.append
  simp only
  rw [if_neg (by simpa using hr), hg]
  simp only
  rw [if_pos hc]
theorem append_o {nm a : Bs} (hr : (D.beg (isName nm)).1 = 0) {f : Fi} (hg : getF nm (D.beg (isName nm)).2.L = some f) (hc : ¬ (D.beg (isName nm)).2.room < (usedF (D.beg (isName nm)).2.L : Int) + (a.length : Int)) : D.append nm a = (0, { (D.beg (isName nm)).2 with L := updF nm ⟨nm, f.bs ++ a, f.sf⟩ (D.beg (isName nm)).2.L }) := by
  unfold Dk.append
  simp only
  rw [if_neg (by simpa using hr), hg]
  simp only
  rw [if_neg hc]
theorem wpl_append {ops : Array Oper} {rest : List Oper} {o : Oper} {a : Act} {Q : Exit → Act → World → Prop} {v : Value} {bs : Bs} (h : RowB w v bs) {s : ByteArray} (hb : bs.length + s.size ≤ 1099511627776) (hgd : o.guard = none) (sl x : Operand)
    (hop : o.op = .call { callee := .builtin .append, args := #[sl, x], argTypes := #[73, 9] }) (hs : a.eval sl = v) (hx : a.eval x = .string s)
    (hK : ∀ o' cap' w', RowB w' (.slice o' (bs.length + s.size) cap') (bs ++ kl s) → w.grownBy w' v.ownBlock → (∀ b, Value.ownBlock (.slice o' (bs.length + s.size) cap') = some b → v.ownBlock = some b ∨ w.heap.size ≤ b) → wpList Try.prog ops Q rest (a.put o.dst (.slice o' (bs.length + s.size) cap')) w') :
    wpList Try.prog ops Q (o :: rest) a w := by
  refine wpList_plain hgd fun K hK' => ?_
  obtain ⟨v', w', hr, h2, h3, h4⟩ := h.append s hb o.type
  obtain ⟨o', cap', rfl, _⟩ := h2.form
  rw [List.length_append, kl_len] at hr h2 h4
  unfold Oper.wp execOp
  simp only [hop, resolve, invoke, builtin, Sem.run_bind, Sem.run_pure, Result.andThen_ok, List.map_toArray, List.map_cons, List.map_nil, hs, hx, hr]
  refine hK' _ _ (hK o' cap' w' h2 h3 fun b hb => ?_)
  rcases h4 with e | e
  · exact .inl (by rw [← e]; exact hb)
  · rw [e] at hb
    exact .inr (Nat.le_of_eq (Option.some.inj hb))
set_option maxRecDepth 100000 in
set_option maxHeartbeats 2000000 in
theorem append_any (h : DiskAt w p m G D) (ho : D.ops ≤ 1099511627776) {s t : ByteArray} (hs : s.size ≤ 9223372036854775807) (ht : t.size ≤ 1099511627) :
    Calls Try.prog 29 #[.pointer (some ⟨p, 0, none⟩), .string s, .string t] w fun e w' => e = .returned (.int .i64 (D.append (kl s) (kl t)).1) ∧ Post w w' p m G D (D.append (kl s) (kl t)).2 := by
  have N1 := name_one w hs
  have hA := h.alloc (.cells #[.string s] 9)
  have g0 := Goes.alloc w (.cells #[.string s] 9) (zone p m G D.L)
  have HL := Lib.hid (beg_L D (isName (kl s))).1
  clear h
  by_cases hr : (D.beg (isName (kl s))).1 ≠ 0
  · rw [append_r hr]
    have B := reach_no hA ho hs (isName (kl s)) hr
    clear hA
    generalize D.beg (isName (kl s)) = r at *
    obtain ⟨r1, r2⟩ := r
    simp only at hr B HL ⊢
    generalize isName (kl s) = good at *
    go_enter Try.func29, Try.ntmps29
    go_wp2_with fail
    refine N1.mono ?_
    rintro e w' ⟨rfl, rfl⟩
    go_wp2_with fail
    refine B.mono ?_
    rintro e w2 ⟨rfl, h2, g2⟩
    clear N1 B
    go_wp2
    go_ret
    exact ⟨rfl, G, h2, by rw [HL.out]; exact g0.trans g2⟩
  have hr : (D.beg (isName (kl s))).1 = 0 := by simpa using hr
  have hgd := beg_good hr
  cases hg : getF (kl s) (D.beg (isName (kl s))).2.L with
  | none =>
    rw [append_n hr hg]
    have B := reach_none hA ho hs (isName (kl s)) hr hg
    clear hA hgd hr hg
    generalize (D.beg (isName (kl s))).2 = r at *
    generalize isName (kl s) = good at *
    go_enter Try.func29, Try.ntmps29
    go_wp2_with fail
    refine N1.mono ?_
    rintro e w' ⟨rfl, rfl⟩
    go_wp2_with fail
    refine B.mono ?_
    rintro e w2 ⟨rfl, h2, g2⟩
    clear N1 B
    go_wp2
    go_ret
    exact ⟨rfl, G, h2, by rw [HL.out]; exact g0.trans g2⟩
  | some f =>
    have B := reach_some hA ho hs (isName (kl s)) hr hg
    clear hA
    obtain ⟨hf, hn⟩ := get_some hg
    have US := Lib.hid fun w' (h' : DiskAt w' p m G (D.beg (isName (kl s))).2) => used_any h'
    have R0 : ∀ w', DiskAt w' p m G (D.beg (isName (kl s))).2 → w'.cell? ⟨p, 0, none⟩ = some (.int .i64 (D.beg (isName (kl s))).2.room) := fun w' h' => by
      have := h'.cell 0
      simpa [headV] using this
    have R0' := Lib.hid R0
    clear R0
    have hkt := kl_len t
    by_cases hc : (D.beg (isName (kl s))).2.room < (usedF (D.beg (isName (kl s))).2.L : Int) + ((kl t).length : Int)
    · rw [append_f hr hg hc]
      rw [hkt] at hc
      clear hgd hr hg hkt
      generalize (D.beg (isName (kl s))).2 = r at *
      have us : ∀ w', DiskAt w' p m G r → usedF r.L ≤ 4194304 := fun w' h' => used_small h'
      have USM := Lib.hid us
      clear us hf hn
      generalize (G f.nm).1 = gb at *
      generalize isName (kl s) = good at *
      go_enter Try.func29, Try.ntmps29
      go_wp2_with fail
      refine N1.mono ?_
      rintro e w' ⟨rfl, rfl⟩
      go_wp2_with fail
      refine B.mono ?_
      rintro e w2 ⟨rfl, h2, g2⟩
      clear N1 B
      have us := USM.out w2 h2
      have j0 : DiskAt w2.drew p m G r ∧ Goes w w2.drew (zone p m G D.L) (zone p m G D.L) := ⟨h2.drewN 1, (g0.trans g2).trans (Goes.drewN w2 1 _)⟩
      clear h2 g2 g0 USM
      have q1 : IntKind.i64.wrap ((usedF r.L : Int) + (t.size : Int)) = (usedF r.L : Int) + (t.size : Int) := IntWalk.i64_in _ (by omega)
      go_upto_region 4 with (fail)
      refine wp_region_held (S := fun x => DiskAt x p m G r ∧ Goes w x (zone p m G D.L) (zone p m G D.L)) (by kernel_rfl) ?_
      change wpAnyH _ _ _ _ _ _ _ _ w2.drew
      generalize w2.drew = w2' at j0 ⊢
      refine held_take 0 (.pointer (some ⟨p, 0, none⟩)) rfl (by kernel_rfl) (by kernel_rfl) (by kernel_rfl) (fun _ _ _ h => h) (Or.inl ⟨by rfl, fun x j => by go_simp⟩) j0 (fun K hK => ?_)
      go_simp
      refine hK _ _ ?_
      clear hK K
      refine held_take 2 (.string t) rfl (by kernel_rfl) (by kernel_rfl) (by kernel_rfl) (fun _ _ _ h => h) (Or.inl ⟨by rfl, fun x j => by go_simp⟩) j0 (fun K hK => ?_)
      go_simp
      refine hK _ _ ?_
      clear hK K
      refine held_take 3 (.int .i64 (t.size : Int)) rfl (by kernel_rfl) (by kernel_rfl) (by kernel_rfl) (fun _ _ _ h => h) (Or.inl ⟨by rfl, fun x j => by go_simp⟩) j0 (fun K hK => ?_)
      go_simp
      refine hK _ _ ?_
      clear hK K
      refine held_take 5 (.pointer (some ⟨p, 0, none⟩)) rfl (by kernel_rfl) (by kernel_rfl) (by kernel_rfl) (fun _ _ _ h => h) (Or.inl ⟨by rfl, fun x j => by go_simp⟩) j0 (fun K hK => ?_)
      go_simp
      refine hK _ _ ?_
      clear hK K
      refine held_take 6 (.pointer (some ⟨p, 0, none⟩)) rfl (by kernel_rfl) (by kernel_rfl) (by kernel_rfl) (fun _ _ _ h => h) (Or.inl ⟨by rfl, fun x j => by go_simp⟩) j0 (fun K hK => ?_)
      go_simp
      refine hK _ _ ?_
      clear hK K
      refine held_take 7 (.pointer (some ⟨p, 0, none⟩)) rfl (by kernel_rfl) (by kernel_rfl) (by kernel_rfl) (fun _ _ _ h => h) (Or.inl ⟨by rfl, fun x j => by go_simp⟩) j0 (fun K hK => ?_)
      go_simp
      refine hK _ _ ?_
      clear hK K
      refine held_take 8 (.int .i64 r.room) rfl (by kernel_rfl) (by kernel_rfl) (by kernel_rfl) (fun _ _ _ h => h) (Or.inl ⟨by rfl, fun x j => by have c0 := R0'.out x j.1; go_simp⟩) j0 (fun K hK => ?_)
      go_simp
      refine hK _ _ ?_
      clear hK K
      refine held_one 1 (by kernel_rfl) (fun K hK => wpOp_in rfl rfl ?_)
      go_simp
      refine (US.out _ j0.1).mono ?_
      rintro e w3 ⟨rfl, hb3⟩
      have J1 : DiskAt w3 p m G r ∧ Goes w w3 (zone p m G D.L) (zone p m G D.L) := ⟨j0.1.kept fun b hb => hb3.block b (j0.1.lt hb), j0.2.trans (Goes.of_below hb3 _)⟩
      clear hb3
      refine hK _ _ J1 ?_
      clear hK K j0
      refine held_take 4 (.int .i64 ((usedF r.L : Int) + (t.size : Int))) rfl (by kernel_rfl) (by kernel_rfl) (by kernel_rfl) (fun _ _ _ h => h) (Or.inl ⟨by rfl, fun x j => by go_simp⟩) J1 (fun K hK => ?_)
      go_simp
      refine hK _ _ ?_
      clear hK K
      refine held_take 9 (.bool true) rfl (by kernel_rfl) (by kernel_rfl) (by kernel_rfl) (fun _ _ _ h => h) (Or.inl ⟨by rfl, fun x j => by go_simp⟩) J1 (fun K hK => ?_)
      go_simp
      refine hK _ _ ?_
      clear hK K
      refine wpAnyH_done (by kernel_rfl) ?_ _
      go_wp2
      go_ret
      exact ⟨rfl, G, J1.1, by rw [HL.out]; exact J1.2⟩
    · rw [append_o hr hg hc]
      rw [hkt] at hc
      clear hgd hr hg
      generalize (D.beg (isName (kl s))).2 = r at *
      have us : ∀ w', DiskAt w' p m G r → usedF r.L ≤ 4194304 := fun w' h' => used_small h'
      have USM := Lib.hid us
      have BL := Lib.hid (mem_used hf)
      have FIN : ∀ w3, DiskAt w3 p m G r → Goes w w3 (zone p m G D.L) (zone p m G D.L) → ∀ o' cap' w4, RowB w4 (.slice o' (f.bs.length + t.size) cap') (f.bs ++ kl t) → w3.grownBy w4 (G f.nm).2.ownBlock → (∀ b, Value.ownBlock (.slice o' (f.bs.length + t.size) cap') = some b → (G f.nm).2.ownBlock = some b ∨ w3.heap.size ≤ b) →
          Post w (w4.setCell ⟨(G f.nm).1, 0, none⟩ (.slice o' (f.bs.length + t.size) cap')) p m G D { r with L := updF (kl s) ⟨kl s, f.bs ++ kl t, f.sf⟩ r.L } := by
        intro w3 h3 g3 o' cap' w4 hr4 hg4 hv4
        have hF := h3.file f hf
        rw [← hn]
        have hst : w4.heap[(G f.nm).1]? = some (.cells #[(G f.nm).2, .int .i64 (f.sf : Int)] 75 (0, 0)) := (hg4.block _ (in_heap hF.st) fun e => h3.gr hf hf e.symm rfl).trans hF.st
        have k := h3.setFile (w' := w4.setCell ⟨(G f.nm).1, 0, none⟩ (.slice o' (f.bs.length + t.size) cap')) hf (g := ⟨f.nm, f.bs ++ kl t, f.sf⟩) (v := .slice o' (f.bs.length + t.size) cap') rfl (h3.ok.upd hf rfl (by have := h3.ok.safe f hf; simp; omega) (by simp [hkt]; omega))
          ⟨heap_set _ _ _ _ _ _ _ hst, row_same hr4 fun b hb => Below.heap_setCell _ _ _ _ fun e => by
            rcases hv4 b hb with c | c
            · exact h3.gr hf hf c e.symm
            · have := in_heap hF.st
              simp at e
              omega⟩ (fun b hb hne hne' => (Below.heap_setCell _ _ _ _ hne).trans (hg4.block b hb fun e => hne' e.symm)) hv4
        have z := zone_setFile h3 hf (g := ⟨f.nm, f.bs ++ kl t, f.sf⟩) (v := .slice o' (f.bs.length + t.size) cap') rfl hv4
        refine ⟨_, k, g3.trans ⟨hg4.os, hg4.tape, hg4.output, by simpa using hg4.size, fun b hb hz => (Below.heap_setCell _ _ _ _ fun e => hz (.inr (.inr ⟨f, by rw [← HL.out]; exact hf, .inl e⟩))).trans (hg4.block b hb fun e => hz (.inr (.inr ⟨f, by rw [← HL.out]; exact hf, .inr e.symm⟩))), fun b hb => ?_⟩⟩
        have := z b hb
        rw [HL.out] at this
        exact this
      have FH := Lib.hid FIN
      have CE : ∀ w3, DiskAt w3 p m G r → ∃ o cap, w3.cell? ⟨(G f.nm).1, 0, none⟩ = some (.slice o f.bs.length cap) ∧ w3.frozen? ⟨(G f.nm).1, 0, none⟩ = false ∧ RowB w3 (.slice o f.bs.length cap) f.bs ∧ (G f.nm).2 = .slice o f.bs.length cap ∧ (G f.nm).1 < w3.heap.size ∧ some (G f.nm).1 ≠ (G f.nm).2.ownBlock := by
        intro w3 h3
        have hF := h3.file f hf
        obtain ⟨o, cap, e1, _⟩ := hF.row.form
        have c0 := hF.cell0
        have rw := hF.row
        rw [e1] at c0 rw
        exact ⟨o, cap, c0, hF.frozen 0, rw, e1, in_heap hF.st, fun e => h3.gr hf hf e.symm rfl⟩
      have CH := Lib.hid CE
      clear FIN CE hf hn us hkt
      generalize (G f.nm) = gv at *
      obtain ⟨gb, vv⟩ := gv
      simp only at FH CH B
      generalize isName (kl s) = good at *
      go_enter Try.func29, Try.ntmps29
      go_wp2_with fail
      refine N1.mono ?_
      rintro e w' ⟨rfl, rfl⟩
      go_wp2_with fail
      refine B.mono ?_
      rintro e w2 ⟨rfl, h2, g2⟩
      clear N1 B
      have us := USM.out w2 h2
      have j0 : DiskAt w2.drew p m G r ∧ Goes w w2.drew (zone p m G D.L) (zone p m G D.L) := ⟨h2.drewN 1, (g0.trans g2).trans (Goes.drewN w2 1 _)⟩
      clear h2 g2 g0 USM
      have q1 : IntKind.i64.wrap ((usedF r.L : Int) + (t.size : Int)) = (usedF r.L : Int) + (t.size : Int) := IntWalk.i64_in _ (by omega)
      go_upto_region 4 with (fail)
      refine wp_region_held (S := fun x => DiskAt x p m G r ∧ Goes w x (zone p m G D.L) (zone p m G D.L)) (by kernel_rfl) ?_
      change wpAnyH _ _ _ _ _ _ _ _ w2.drew
      generalize w2.drew = w2' at j0 ⊢
      refine held_take 0 (.pointer (some ⟨p, 0, none⟩)) rfl (by kernel_rfl) (by kernel_rfl) (by kernel_rfl) (fun _ _ _ h => h) (Or.inl ⟨by rfl, fun x j => by go_simp⟩) j0 (fun K hK => ?_)
      go_simp
      refine hK _ _ ?_
      clear hK K
      refine held_take 2 (.string t) rfl (by kernel_rfl) (by kernel_rfl) (by kernel_rfl) (fun _ _ _ h => h) (Or.inl ⟨by rfl, fun x j => by go_simp⟩) j0 (fun K hK => ?_)
      go_simp
      refine hK _ _ ?_
      clear hK K
      refine held_take 3 (.int .i64 (t.size : Int)) rfl (by kernel_rfl) (by kernel_rfl) (by kernel_rfl) (fun _ _ _ h => h) (Or.inl ⟨by rfl, fun x j => by go_simp⟩) j0 (fun K hK => ?_)
      go_simp
      refine hK _ _ ?_
      clear hK K
      refine held_take 5 (.pointer (some ⟨p, 0, none⟩)) rfl (by kernel_rfl) (by kernel_rfl) (by kernel_rfl) (fun _ _ _ h => h) (Or.inl ⟨by rfl, fun x j => by go_simp⟩) j0 (fun K hK => ?_)
      go_simp
      refine hK _ _ ?_
      clear hK K
      refine held_take 6 (.pointer (some ⟨p, 0, none⟩)) rfl (by kernel_rfl) (by kernel_rfl) (by kernel_rfl) (fun _ _ _ h => h) (Or.inl ⟨by rfl, fun x j => by go_simp⟩) j0 (fun K hK => ?_)
      go_simp
      refine hK _ _ ?_
      clear hK K
      refine held_take 7 (.pointer (some ⟨p, 0, none⟩)) rfl (by kernel_rfl) (by kernel_rfl) (by kernel_rfl) (fun _ _ _ h => h) (Or.inl ⟨by rfl, fun x j => by go_simp⟩) j0 (fun K hK => ?_)
      go_simp
      refine hK _ _ ?_
      clear hK K
      refine held_take 8 (.int .i64 r.room) rfl (by kernel_rfl) (by kernel_rfl) (by kernel_rfl) (fun _ _ _ h => h) (Or.inl ⟨by rfl, fun x j => by have c0 := R0'.out x j.1; go_simp⟩) j0 (fun K hK => ?_)
      go_simp
      refine hK _ _ ?_
      clear hK K
      refine held_one 1 (by kernel_rfl) (fun K hK => wpOp_in rfl rfl ?_)
      go_simp
      refine (US.out _ j0.1).mono ?_
      rintro e w3 ⟨rfl, hb3⟩
      have J1 : DiskAt w3 p m G r ∧ Goes w w3 (zone p m G D.L) (zone p m G D.L) := ⟨j0.1.kept fun b hb => hb3.block b (j0.1.lt hb), j0.2.trans (Goes.of_below hb3 _)⟩
      clear hb3
      refine hK _ _ J1 ?_
      clear hK K j0
      refine held_take 4 (.int .i64 ((usedF r.L : Int) + (t.size : Int))) rfl (by kernel_rfl) (by kernel_rfl) (by kernel_rfl) (fun _ _ _ h => h) (Or.inl ⟨by rfl, fun x j => by go_simp⟩) J1 (fun K hK => ?_)
      go_simp
      refine hK _ _ ?_
      clear hK K
      refine held_take 9 (.bool false) rfl (by kernel_rfl) (by kernel_rfl) (by kernel_rfl) (fun _ _ _ h => h) (Or.inl ⟨by rfl, fun x j => by go_simp⟩) J1 (fun K hK => ?_)
      go_simp
      refine hK _ _ ?_
      clear hK K
      refine wpAnyH_done (by kernel_rfl) ?_ _
      obtain ⟨o1, cap1, c0, f0, rw0, rfl, lt0, ne0⟩ := CH.out w3 J1.1
      have bl := BL.out
      have F2 := Lib.hid (FH.out w3 J1.1 J1.2)
      clear CH FH J1 BL
      go_wp2_with (first | (at_builtin; refine wpl_append rw0 (by omega) rfl _ _ rfl rfl rfl ?_; intro o2 cap2 w4 hr4 hg4 hv4; have c4 := (World.cell?_of_block (a := ⟨gb, 0, none⟩) (hg4.block gb lt0 ne0)).trans c0; have f4 := (World.frozen?_of_block (a := ⟨gb, 0, none⟩) (hg4.block gb lt0 ne0)).trans f0))
      go_ret
      exact ⟨rfl, F2.out o2 cap2 w4 hr4 hg4 hv4⟩
end
end Go.Proofs.Ytdmgobffhpgjlaa.Pk
end

section
namespace Go.Proofs.Ytdmgobffhpgjlaa.Pk
open Go.RowKit Go.PlainAid Go.Maps
set_option linter.unusedVariables false
set_option maxRecDepth 20000
set_option linter.unusedSimpArgs false

theorem size_u8 (w : World) : (sizeOf 5).run Try.prog w = .ok 1 w := size_of (by kernel_rfl) w
theorem cut_nil_to (w : World) : (Instr.sliceAt 73 (.slice none 0 0) none (some (.int .i64 0)) none).run Try.prog w = .ok (.slice none 0 0) w := by
  have hz := size_u8 w
  simp [Instr.sliceAt, Instr.slice, run_underlying Try.underlying73, Instr.sliceBounds, run_sliceBound, hz]
theorem cut_nil_from (w : World) : (Instr.sliceAt 73 (.slice none 0 0) (some (.int .i64 0)) none none).run Try.prog w = .ok (.slice none 0 0) w := by
  have hz := size_u8 w
  simp [Instr.sliceAt, Instr.slice, run_underlying Try.underlying73, Instr.sliceBounds, run_sliceBound, hz]
/-- bytes[:k] -/
theorem cut_to (w : World) (g a n cap k : Nat) (hk : k ≤ cap) :
    (Instr.sliceAt 73 (.slice (some ⟨g, a, none⟩) n cap) none (some (.int .i64 (k : Int))) none).run Try.prog w = .ok (.slice (some ⟨g, a, none⟩) k cap) w := by
  have h0 : (0 : Int) ≤ (k : Int) := by omega
  have h1 : (k : Int) ≤ (cap : Int) := by omega
  have hz := size_u8 w
  by_cases h2 : cap = 0
  · subst h2
    obtain rfl : k = 0 := by omega
    simp [Instr.sliceAt, Instr.slice, run_underlying Try.underlying73, Instr.sliceBounds, run_sliceBound, hz]
  · simp [Instr.sliceAt, Instr.slice, run_underlying Try.underlying73, Instr.sliceBounds, run_sliceBound, hz, h0, h1, h2, add_addr]
/-- bytes[k:] -/
theorem cut_from (w : World) (g n cap k : Nat) (hk : k ≤ n) :
    (Instr.sliceAt 73 (.slice (some ⟨g, 0, none⟩) n cap) (some (.int .i64 (k : Int))) none none).run Try.prog w = .ok (.slice (some ⟨g, if cap = k then 0 else k, none⟩) (n - k) (cap - k)) w := by
  have h0 : (0 : Int) ≤ (k : Int) := by omega
  have h1 : (k : Int) ≤ (n : Int) := by omega
  have hz := size_u8 w
  by_cases h2 : cap = k
  · simp [Instr.sliceAt, Instr.slice, run_underlying Try.underlying73, Instr.sliceBounds, run_sliceBound, hz, h0, h1, h2]
  · simp [Instr.sliceAt, Instr.slice, run_underlying Try.underlying73, Instr.sliceBounds, run_sliceBound, hz, h0, h1, h2, add_addr]
theorem empty_text (w : World) (g a cap : Nat) : (convert 73 9 (.slice (some ⟨g, a, none⟩) 0 cap)).run Try.prog w = .ok (.string ⟨#[]⟩) w := by
  have := run_convert_bytes_back w 73 9 5 ⟨g, a, none⟩ cap [] Try.underlying73 Try.underlying5 Try.underlying9 (P := Try.prog) fun j hj => by simp at hj
  exact this
theorem cut_text {w : World} {v : Value} {bs : Bs} (h : RowB w v bs) {a k : Nat} (ha : a ≤ bs.length) (hk : k ≤ bs.length - a) : ∃ o1 c1 o2, (Instr.sliceAt 73 v (some (.int .i64 (a : Int))) none none).run Try.prog w = .ok (.slice o1 (bs.length - a) c1) w ∧
    (Instr.sliceAt 73 (.slice o1 (bs.length - a) c1) none (some (.int .i64 (k : Int))) none).run Try.prog w = .ok (.slice o2 k c1) w ∧ (convert 73 9 (.slice o2 k c1)).run Try.prog w = .ok (.string ⟨((bs.drop a).take k).toArray⟩) w := by
  rcases h with ⟨rfl, rfl⟩ | ⟨g, cap, cur, fr, rfl, hg, hf, hl, hm, hc, ht⟩
  · simp at ha
    subst ha
    simp at hk
    subst hk
    exact ⟨none, 0, none, cut_nil_from w, cut_nil_to w, RowB.text (.inl ⟨rfl, rfl⟩)⟩
  · have R : RowB w (.slice (some ⟨g, 0, none⟩) bs.length cap) bs := .inr ⟨g, cap, cur, fr, rfl, hg, hf, hl, hm, hc, ht⟩
    refine ⟨_, _, _, cut_from w g bs.length cap a ha, cut_to w g _ _ _ k (by omega), ?_⟩
    by_cases h2 : cap = a
    · have : k = 0 := by omega
      subst this
      rw [empty_text]
      simp
    · rw [if_neg h2]
      exact part_text (cap := cap) (fun j c hj => (R.cells.2 j c hj).1) (by omega) _
theorem cut_row {w : World} {v : Value} {bs : Bs} (h : RowB w v bs) {k : Nat} (hk : k ≤ bs.length) : ∃ o c, (Instr.sliceAt 73 v none (some (.int .i64 (k : Int))) none).run Try.prog w = .ok (.slice o k c) w ∧ RowB w (.slice o k c) (bs.take k) ∧ Value.ownBlock (.slice o k c) = v.ownBlock := by
  rcases h with ⟨rfl, rfl⟩ | ⟨g, cap, cur, fr, rfl, hg, hf, hl, hm, hc, ht⟩
  · simp at hk
    subst hk
    exact ⟨none, 0, cut_nil_to w, .inl ⟨rfl, rfl⟩, rfl⟩
  · have R : RowB w (.slice (some ⟨g, 0, none⟩) bs.length cap) bs := .inr ⟨g, cap, cur, fr, rfl, hg, hf, hl, hm, hc, ht⟩
    exact ⟨_, _, cut_to w g 0 _ _ k (by omega), R.cut hk, rfl⟩
end Go.Proofs.Ytdmgobffhpgjlaa.Pk
end

section
namespace Go.Proofs.Ytdmgobffhpgjlaa.Pk
open Go.RowKit Go.PlainAid Go.Maps
set_option linter.unusedVariables false
set_option maxRecDepth 20000
set_option linter.unusedSimpArgs false

section
variable {w w' : World} {p m : Nat} {G : Gs} {D : Dk}
theorem rename_r {nm to : Bs} (hr : (D.beg (isName nm && isName to)).1 ≠ 0) : D.rename nm to = D.beg (isName nm && isName to) := by
  unfold Dk.rename
  simp only
  rw [if_pos hr]
theorem rename_n {nm to : Bs} (hr : (D.beg (isName nm && isName to)).1 = 0) (hg : getF nm (D.beg (isName nm && isName to)).2.L = none) : D.rename nm to = (7, (D.beg (isName nm && isName to)).2) := by
  unfold Dk.rename
  simp only
  rw [if_neg (by simpa using hr), hg]
theorem rename_s {nm to : Bs} (hr : (D.beg (isName nm && isName to)).1 = 0) {f : Fi} (hg : getF nm (D.beg (isName nm && isName to)).2.L = some f) : D.rename nm to = (0, { (D.beg (isName nm && isName to)).2 with L := insF ⟨to, f.bs, f.sf⟩ (delF to (delF nm (D.beg (isName nm && isName to)).2.L)) }) := by
  unfold Dk.rename
  simp only
  rw [if_neg (by simpa using hr), hg]
set_option maxRecDepth 100000 in
set_option maxHeartbeats 2000000 in
theorem rename_any (h : DiskAt w p m G D) (ho : D.ops ≤ 1099511627776) {s t : ByteArray} (hs : s.size ≤ 9223372036854775807) (ht : t.size ≤ 9223372036854775807) :
    Calls Try.prog 54 #[.pointer (some ⟨p, 0, none⟩), .string s, .string t] w fun e w' => e = .returned (.int .i64 (D.rename (kl s) (kl t)).1) ∧ Post w w' p m G D (D.rename (kl s) (kl t)).2 := by
  have N1 := name_two w hs ht
  have hA := h.alloc (.cells #[.string s, .string t] 9)
  have g0 := Goes.alloc w (.cells #[.string s, .string t] 9) (zone p m G D.L)
  have HL := Lib.hid (beg_L D (isName (kl s) && isName (kl t))).1
  clear h
  by_cases hr : (D.beg (isName (kl s) && isName (kl t))).1 ≠ 0
  · rw [rename_r hr]
    have B := reach_no hA ho hs (isName (kl s) && isName (kl t)) hr
    clear hA
    generalize D.beg (isName (kl s) && isName (kl t)) = r at *
    obtain ⟨r1, r2⟩ := r
    simp only at hr B HL ⊢
    generalize (isName (kl s) && isName (kl t)) = good at *
    go_enter Try.func54, Try.ntmps54
    go_wp2_with fail
    refine N1.mono ?_
    rintro e w' ⟨rfl, rfl⟩
    go_wp2_with fail
    refine B.mono ?_
    rintro e w2 ⟨rfl, h2, g2⟩
    clear N1 B
    go_wp2
    go_ret
    exact ⟨rfl, G, h2, by rw [HL.out]; exact g0.trans g2⟩
  have hr : (D.beg (isName (kl s) && isName (kl t))).1 = 0 := by simpa using hr
  have hgd := beg_good hr
  cases hg : getF (kl s) (D.beg (isName (kl s) && isName (kl t))).2.L with
  | none =>
    rw [rename_n hr hg]
    have B := reach_none hA ho hs (isName (kl s) && isName (kl t)) hr hg
    clear hA hgd hr hg
    generalize (D.beg (isName (kl s) && isName (kl t))).2 = r at *
    generalize (isName (kl s) && isName (kl t)) = good at *
    go_enter Try.func54, Try.ntmps54
    go_wp2_with fail
    refine N1.mono ?_
    rintro e w' ⟨rfl, rfl⟩
    go_wp2_with fail
    refine B.mono ?_
    rintro e w2 ⟨rfl, h2, g2⟩
    clear N1 B
    go_wp2
    go_ret
    exact ⟨rfl, G, h2, by rw [HL.out]; exact g0.trans g2⟩
  | some f =>
    have B := reach_some hA ho hs (isName (kl s) && isName (kl t)) hr hg
    clear hA
    obtain ⟨hf, hn⟩ := get_some hg
    rw [rename_s hr hg]
    have hto : isName (kl t) = true := by
      simp only [Bool.and_eq_true] at hgd
      exact hgd.2
    clear hgd hr hg
    generalize (D.beg (isName (kl s) && isName (kl t))).2 = r at *
    have FIN : ∀ w2, DiskAt w2 p m G r → ∀ w3, w3.ownsMap Try.prog 9 RF m r.L.length ((datum G r.L).del (.string (kl s))) → w2.mapTurned w3 m → Goes w w2 (zone p m G D.L) (zone p m G D.L) → ∀ w4 n, w4.ownsMap Try.prog 9 RF m n (((datum G r.L).del (.string (kl s))).put (.string (kl t)) (.lit (.int .i64 ((G f.nm).1 : Int)))) → w3.grownBy w4 (some m) →
        Post w w4 p m G D { r with L := insF ⟨kl t, f.bs, f.sf⟩ (delF (kl t) (delF (kl s) r.L)) } := by
      intro w2 h2 w3 hm3 ht3 g2 w4 n hm4 hg4
      have hg3 := ht3.grown
      have h3 := h2.del (w' := w3) (kl s) hm3 fun b hb hne => hg3.block b hb fun e => hne (Option.some.inj e)
      have both : ∀ b, b < w2.heap.size → b ≠ m → w4.heap[b]? = w2.heap[b]? := fun b hb hne => (hg4.block b (Nat.lt_of_lt_of_le hb hg3.size) fun e => hne (Option.some.inj e)).trans (hg3.block b hb fun e => hne (Option.some.inj e))
      have hF := h2.file f hf
      have hF4 : FileAt w4 ⟨kl t, f.bs, f.sf⟩ ((G f.nm).1, (G f.nm).2) := ⟨(both _ (in_heap hF.st) (h2.mg hf).symm).trans hF.st, row_same hF.row fun b hb => both b (h2.lt (.inr (.inr ⟨f, hf, .inr hb⟩))) (h2.mr hf hb).symm⟩
      have hu := used_del h2.ok.up.ne hf
      have hl := len_del h2.ok.up.ne hf
      rw [hn] at hu hl
      have huse := h2.ok.used
      have hcnt := h2.ok.cnt
      have ok : { r with L := insF ⟨kl t, f.bs, f.sf⟩ (delF (kl t) (delF (kl s) r.L)) }.Ok := by
        have o1 := (h2.ok.del (kl s)).del (kl t)
        refine o1.ins (D := { r with L := delF (kl t) (delF (kl s) r.L) }) hto (h2.ok.safe f hf) (fun x hx => (mem_del.1 hx).2) ?_ ?_
        · have : usedF (delF (kl t) (delF (kl s) r.L)) ≤ usedF (delF (kl s) r.L) := by
            cases hgt : getF (kl t) (delF (kl s) r.L) with
            | none => rw [del_none (get_none hgt)]; exact Nat.le_refl _
            | some x =>
              obtain ⟨x1, x2⟩ := get_some hgt
              have := used_del (h2.ok.up.del (kl s)).ne x1
              rw [x2] at this
              omega
          simp
          omega
        · have : (delF (kl t) (delF (kl s) r.L)).length ≤ (delF (kl s) r.L).length := List.length_filter_le _ _
          simp
          omega
      rw [datum_del] at hm4
      have k := h3.put (w' := w4) (f := ⟨kl t, f.bs, f.sf⟩) (g := (G f.nm).1) (v := (G f.nm).2) hm4 ok hF4 ?_ ?_ ?_
      · refine ⟨_, k, g2.trans ⟨hg4.os.trans hg3.os, hg4.tape.trans hg3.tape, hg4.output.trans hg3.output, Nat.le_trans hg3.size hg4.size, fun b hb hz => both b hb fun e => hz (.inr (.inl e)), fun b hb => ?_⟩⟩
        rcases zone_put (D := { r with L := delF (kl s) r.L }) b hb with c | c | c
        · have := zone_del (kl s) b c
          rw [HL.out] at this
          exact .inl this
        · exact .inl (.inr (.inr ⟨f, by rw [← HL.out]; exact hf, .inl c⟩))
        · exact .inl (.inr (.inr ⟨f, by rw [← HL.out]; exact hf, .inr c⟩))
      · intro b hb hne
        exact hg4.block b (h3.lt (zone_del (kl t) b hb)) fun e => hne (Option.some.inj e)
      · intro x hx e
        obtain ⟨hx1, hx2⟩ := mem_del.1 (mem_del.1 hx).1
        exact (h2.apart f hf x hx1 (by rw [hn]; exact hx2.symm)).1 e
      · intro b hb x hx
        obtain ⟨hx1, hx2⟩ := mem_del.1 (mem_del.1 hx).1
        exact (h2.apart f hf x hx1 (by rw [hn]; exact hx2.symm)).2 b hb
    have FH := Lib.hid FIN
    have hkey := keyN hs
    have hkey2 := keyN ht
    have CN : ∀ w', DiskAt w' p m G r → r.L.length ≤ 200 := fun w' h' => h'.ok.cnt
    have CNH := Lib.hid CN
    clear FIN hf hn CN hto
    generalize (G f.nm).1 = gb at *
    generalize (isName (kl s) && isName (kl t)) = good at *
    go_enter Try.func54, Try.ntmps54
    go_wp2_with fail
    refine N1.mono ?_
    rintro e w' ⟨rfl, rfl⟩
    go_wp2_with fail
    refine B.mono ?_
    rintro e w2 ⟨rfl, h2, g2⟩
    clear N1 B
    have c1 := h2.hand
    have pm := h2.pm
    have lp := in_heap h2.head
    have hown := h2.map
    have cn := CNH.out w2 h2
    have F2 := Lib.hid (FH.out w2 h2)
    have G2 := Lib.hid (g0.trans g2)
    clear h2 g2 g0 FH CNH
    go_wp2_with (first | (at_delete; refine wpList_delete_own _ rfl _ _ 53 9 rfl 72 kname Try.underlying53 _ m _ _ rfl hown _ _ rfl hkey ?_; intro w3 ho3 ht3; have c3 := (World.cell?_of_block (a := ⟨p, 1, none⟩) (ht3.grown.block p lp fun e => pm (Option.some.inj e))).trans c1) | (at_mapUpdate; refine wpList_mapUpdate_own _ rfl _ _ _ 53 rfl 9 72 kname Try.underlying53 _ m r.L.length _ rfl ho3 (by unfold maxLen; omega) _ _ _ rfl rfl hkey2 _ [] (RF_ptr _) ?_; intro w4 ho4 hg4))
    go_ret
    exact ⟨rfl, F2.out w3 ho3 ht3 G2.out w4 _ ho4 hg4⟩
theorem read_b {nm : Bs} {pos n : Int} (hr : (isName nm && decide (0 ≤ pos) && decide (0 ≤ n)) = false) : D.read nm pos n = ([], 1, D) := by
  unfold Dk.read
  rw [hr]
  rfl
theorem read_r {nm : Bs} {pos n : Int} (hb : (isName nm && decide (0 ≤ pos) && decide (0 ≤ n)) = true) (hr : (D.beg true).1 ≠ 0) : D.read nm pos n = ([], D.beg true) := by
  unfold Dk.read
  rw [hb]
  simp only
  rw [if_pos hr]
theorem read_n {nm : Bs} {pos n : Int} (hb : (isName nm && decide (0 ≤ pos) && decide (0 ≤ n)) = true) (hr : (D.beg true).1 = 0) (hg : getF nm (D.beg true).2.L = none) : D.read nm pos n = ([], 7, (D.beg true).2) := by
  unfold Dk.read
  rw [hb]
  simp only
  rw [if_neg (by simpa using hr), hg]
theorem read_f {nm : Bs} {pos n : Int} (hb : (isName nm && decide (0 ≤ pos) && decide (0 ≤ n)) = true) (hr : (D.beg true).1 = 0) {f : Fi} (hg : getF nm (D.beg true).2.L = some f) (hc : (f.bs.length : Int) < pos) : D.read nm pos n = ([], 14, (D.beg true).2) := by
  unfold Dk.read
  rw [hb]
  simp only
  rw [if_neg (by simpa using hr), hg]
  simp only
  rw [if_pos hc]
theorem read_o {nm : Bs} {pos n : Int} (hb : (isName nm && decide (0 ≤ pos) && decide (0 ≤ n)) = true) (hr : (D.beg true).1 = 0) {f : Fi} (hg : getF nm (D.beg true).2.L = some f) (hc : ¬ (f.bs.length : Int) < pos) : D.read nm pos n = ((f.bs.drop pos.toNat).take n.toNat, 0, (D.beg true).2) := by
  unfold Dk.read
  rw [hb]
  simp only
  rw [if_neg (by simpa using hr), hg]
  simp only
  rw [if_neg hc]
set_option maxRecDepth 100000 in
set_option maxHeartbeats 2000000 in
theorem read_any (h : DiskAt w p m G D) (ho : D.ops ≤ 1099511627776) {s : ByteArray} (hs : s.size ≤ 9223372036854775807) (pos n : Int) (hp : pos ≤ 9223372036854775807) (hn : n ≤ 9223372036854775807) :
    Calls Try.prog 39 #[.pointer (some ⟨p, 0, none⟩), .string s, .int .i64 pos, .int .i64 n] w fun e w' => e = .returned (.tuple #[.string ⟨(D.read (kl s) pos n).1.toArray⟩, .int .i64 (D.read (kl s) pos n).2.1]) ∧ Post w w' p m G D (D.read (kl s) pos n).2.2 := by
  have N1 := name_one w hs
  have hA := h.alloc (.cells #[.string s] 9)
  have g0 := Goes.alloc w (.cells #[.string s] 9) (zone p m G D.L)
  have HL := Lib.hid (beg_L D true).1
  clear h
  by_cases b1 : isName (kl s) = false
  · rw [read_b (by simp [b1])]
    rw [b1] at N1
    clear b1
    have B := reach_no hA ho hs false (by simp [Dk.beg])
    rw [show D.beg false = (1, D) from rfl] at B
    clear hA HL
    go_enter Try.func39, Try.ntmps39
    go_wp2_with fail
    refine N1.mono ?_
    rintro e w' ⟨rfl, rfl⟩
    go_wp2_with fail
    refine B.mono ?_
    rintro e w2 ⟨rfl, h2, g2⟩
    clear N1 B
    go_wp2
    go_ret2
    exact ⟨rfl, G, h2, g0.trans g2⟩
  have b1 : isName (kl s) = true := by simpa using b1
  rw [b1] at N1
  by_cases b2 : pos < 0
  · rw [read_b (by have : ¬ 0 ≤ pos := by omega
                   simp [this])]
    clear b1
    have b2' : ¬ 0 ≤ pos := by omega
    have B := reach_no hA ho hs false (by simp [Dk.beg])
    rw [show D.beg false = (1, D) from rfl] at B
    clear hA HL
    go_enter Try.func39, Try.ntmps39
    go_wp2_with fail
    refine N1.mono ?_
    rintro e w' ⟨rfl, rfl⟩
    go_wp2_with fail
    refine B.mono ?_
    rintro e w2 ⟨rfl, h2, g2⟩
    clear N1 B
    go_wp2
    go_ret2
    exact ⟨rfl, G, h2, g0.trans g2⟩
  by_cases b3 : n < 0
  · rw [read_b (by have : ¬ 0 ≤ n := by omega
                   simp [this])]
    clear b1
    have b2' : 0 ≤ pos := by omega
    have b3' : ¬ 0 ≤ n := by omega
    have b4' : decide (0 ≤ n) = false := decide_eq_false b3'
    have B := reach_no hA ho hs false (by simp [Dk.beg])
    rw [show D.beg false = (1, D) from rfl] at B
    clear hA HL
    go_enter Try.func39, Try.ntmps39
    go_wp2_with fail
    refine N1.mono ?_
    rintro e w' ⟨rfl, rfl⟩
    go_wp2_with fail
    refine B.mono ?_
    rintro e w2 ⟨rfl, h2, g2⟩
    clear N1 B
    go_wp2
    go_ret2
    exact ⟨rfl, G, h2, g0.trans g2⟩
  have hb : (isName (kl s) && decide (0 ≤ pos) && decide (0 ≤ n)) = true := by
    have c2 : 0 ≤ pos := by omega
    have c3 : 0 ≤ n := by omega
    simp [b1, c2, c3]
  clear b1
  have b2' : 0 ≤ pos := by omega
  have b3' : 0 ≤ n := by omega
  have b4' : decide (0 ≤ n) = true := decide_eq_true b3'
  by_cases hr : (D.beg true).1 ≠ 0
  · rw [read_r hb hr]
    have B := reach_no hA ho hs true hr
    clear hA hb
    generalize D.beg true = r at *
    obtain ⟨r1, r2⟩ := r
    simp only at hr B HL ⊢
    go_enter Try.func39, Try.ntmps39
    go_wp2_with fail
    refine N1.mono ?_
    rintro e w' ⟨rfl, rfl⟩
    go_wp2_with fail
    refine B.mono ?_
    rintro e w2 ⟨rfl, h2, g2⟩
    clear N1 B
    go_wp2
    go_ret2
    exact ⟨rfl, G, h2, by rw [HL.out]; exact g0.trans g2⟩
  have hr : (D.beg true).1 = 0 := by simpa using hr
  cases hg : getF (kl s) (D.beg true).2.L with
  | none =>
    rw [read_n hb hr hg]
    have B := reach_none hA ho hs true hr hg
    clear hA hb hr hg
    generalize (D.beg true).2 = r at *
    go_enter Try.func39, Try.ntmps39
    go_wp2_with fail
    refine N1.mono ?_
    rintro e w' ⟨rfl, rfl⟩
    go_wp2_with fail
    refine B.mono ?_
    rintro e w2 ⟨rfl, h2, g2⟩
    clear N1 B
    go_wp2
    go_ret2
    exact ⟨rfl, G, h2, by rw [HL.out]; exact g0.trans g2⟩
  | some f =>
    have B := reach_some hA ho hs true hr hg
    clear hA
    obtain ⟨hf, _⟩ := get_some hg
    have CE : ∀ w2, DiskAt w2 p m G (D.beg true).2 → ∃ o cap, w2.cell? ⟨(G f.nm).1, 0, none⟩ = some (.slice o f.bs.length cap) ∧ RowB w2 (.slice o f.bs.length cap) f.bs := by
      intro w2 h2
      have hF := h2.file f hf
      obtain ⟨o, cap, e1, _⟩ := hF.row.form
      have c0 := hF.cell0
      have rw := hF.row
      rw [e1] at c0 rw
      exact ⟨o, cap, c0, rw⟩
    have BL : ∀ w2, DiskAt w2 p m G (D.beg true).2 → f.bs.length ≤ 4194304 := fun w2 h2 => Nat.le_trans (mem_used hf) (used_small h2)
    have CH := Lib.hid CE
    have BH := Lib.hid BL
    clear CE BL hf
    by_cases hc : (f.bs.length : Int) < pos
    · rw [read_f hb hr hg hc]
      clear hb hr hg
      generalize (D.beg true).2 = r at *
      generalize (G f.nm).1 = gb at *
      go_enter Try.func39, Try.ntmps39
      go_wp2_with fail
      refine N1.mono ?_
      rintro e w' ⟨rfl, rfl⟩
      go_wp2_with fail
      refine B.mono ?_
      rintro e w2 ⟨rfl, h2, g2⟩
      clear N1 B
      obtain ⟨o, cap, c0, _⟩ := CH.out w2 h2
      have H2 := Lib.hid h2
      have G2 := Lib.hid (g0.trans g2)
      clear CH BH h2 g2 g0
      generalize f.bs.length = len at *
      go_wp2
      go_ret2
      exact ⟨rfl, G, H2.out, by rw [HL.out]; exact G2.out⟩
    · rw [read_o hb hr hg hc]
      clear hb hr hg
      generalize (D.beg true).2 = r at *
      generalize (G f.nm).1 = gb at *
      obtain ⟨a, rfl⟩ : ∃ a : Nat, pos = (a : Int) := ⟨pos.toNat, by omega⟩
      obtain ⟨k, rfl⟩ : ∃ k : Nat, n = (k : Int) := ⟨n.toNat, by omega⟩
      rw [Int.toNat_natCast, Int.toNat_natCast]
      go_enter Try.func39, Try.ntmps39
      go_wp2_with fail
      refine N1.mono ?_
      rintro e w' ⟨rfl, rfl⟩
      go_wp2_with fail
      refine B.mono ?_
      rintro e w2 ⟨rfl, h2, g2⟩
      clear N1 B
      obtain ⟨o, cap, c0, rw0⟩ := CH.out w2 h2
      have bl := BH.out w2 h2
      have ha : a ≤ f.bs.length := by omega
      have hm : min k (f.bs.length - a) ≤ f.bs.length - a := Nat.min_le_right _ _
      obtain ⟨o1, c1, o2, S1, S2, CV⟩ := cut_text rw0 ha hm
      have e3 : (f.bs.drop a).take (min k (f.bs.length - a)) = (f.bs.drop a).take k := by
        rcases Nat.le_total k (f.bs.length - a) with c | c
        · rw [Nat.min_eq_left c]
        · rw [Nat.min_eq_right c, List.take_of_length_le (by simp), List.take_of_length_le (by simp; omega)]
      rw [e3] at CV
      have e4 : ((min k (f.bs.length - a) : Nat) : Int) = min (k : Int) ((f.bs.length - a : Nat) : Int) := by omega
      rw [e4] at S2
      have H2 := Lib.hid h2
      have G2 := Lib.hid (g0.trans g2)
      have nc : ¬ (f.bs.length : Int) < (a : Int) := by omega
      clear CH BH h2 g2 g0 e3 rw0 hc b2 b3 hp hn b2' b3' b4'
      generalize min k (f.bs.length - a) = mk at *
      generalize f.bs.length - a = rest at *
      go_wp2
      go_ret2
      exact ⟨rfl, G, H2.out, by rw [HL.out]; exact G2.out⟩
end
end Go.Proofs.Ytdmgobffhpgjlaa.Pk
end

section
namespace Go.Proofs.Ytdmgobffhpgjlaa.Pk
open Go.RowKit Go.PlainAid Go.Maps
set_option linter.unusedVariables false
set_option maxRecDepth 20000
set_option linter.unusedSimpArgs false

theorem xor_bv (c b : UInt8) : Value.int .u8 (bits .xor .u8 (c.toNat : Int) (b.toNat : Int)) = bv (c ^^^ b) := by
  rw [u8_xor_nat _ _ c.toNat_lt b.toNat_lt, bv, UInt8.toNat_xor]
section
variable {w w' : World} {p m : Nat} {G : Gs} {D : Dk}
theorem lay_b {nm a : Bs} (hb : isName nm = false) : D.lay nm a = (1, D) := by
  unfold Dk.lay
  rw [if_pos hb]
theorem lay_nf {nm a : Bs} (hb : isName nm = true) (hg : getF nm D.L = none) (hc : 200 ≤ D.L.length ∨ D.room < (usedF D.L : Int) + (a.length : Int)) : D.lay nm a = (6, D) := by
  unfold Dk.lay
  rw [if_neg (by simp [hb]), hg]
  simp only
  rw [if_pos hc]
theorem lay_no {nm a : Bs} (hb : isName nm = true) (hg : getF nm D.L = none) (hc : ¬ (200 ≤ D.L.length ∨ D.room < (usedF D.L : Int) + (a.length : Int))) : D.lay nm a = (0, { D with L := insF ⟨nm, a, a.length⟩ (delF nm D.L) }) := by
  unfold Dk.lay
  rw [if_neg (by simp [hb]), hg]
  simp only
  rw [if_neg hc]
theorem lay_sf {nm a : Bs} (hb : isName nm = true) {f : Fi} (hg : getF nm D.L = some f) (hc : D.room < (usedF D.L : Int) + (a.length : Int) - (f.bs.length : Int)) : D.lay nm a = (6, D) := by
  unfold Dk.lay
  rw [if_neg (by simp [hb]), hg]
  simp only
  rw [if_pos hc]
theorem lay_so {nm a : Bs} (hb : isName nm = true) {f : Fi} (hg : getF nm D.L = some f) (hc : ¬ D.room < (usedF D.L : Int) + (a.length : Int) - (f.bs.length : Int)) : D.lay nm a = (0, { D with L := insF ⟨nm, a, a.length⟩ (delF nm D.L) }) := by
  unfold Dk.lay
  rw [if_neg (by simp [hb]), hg]
  simp only
  rw [if_neg hc]
/-- the file is put, whatever was under its name -/
theorem lay_fin (h : DiskAt w p m G D) {s t : ByteArray} (hb : isName (kl s) = true) (hu : (usedF (delF (kl s) D.L) : Int) + t.size ≤ D.room) (hc : (delF (kl s) D.L).length < 200) {w0 : World} (g : Goes w0 w (zone p m G D.L) (zone p m G D.L))
    {cap : Nat} {X : World} (hR : RowB X (.slice (some ⟨w.heap.size, 0, none⟩) t.size cap) (kl t)) (hB : Below w.heap.size w X) {w4 : World} {n : Nat}
    (hm : w4.ownsMap Try.prog 9 RF m n ((datum G D.L).put (.string (kl s)) (.lit (.int .i64 (X.heap.size : Int))))) (hg : (X.alloc (.cells #[.slice (some ⟨w.heap.size, 0, none⟩) t.size cap, .int .i64 (t.size : Int)] 75)).grownBy w4 (some m)) :
    Post w0 w4 p m G D { D with L := insF ⟨kl s, kl t, (kl t).length⟩ (delF (kl s) D.L) } := by
  have hk := kl_len t
  have hX : DiskAt X p m G D := h.kept fun b hb => hB.block b (h.lt hb)
  have ok : { D with L := insF ⟨kl s, kl t, (kl t).length⟩ (delF (kl s) D.L) }.Ok := (h.ok.del (kl s)).ins (D := { D with L := delF (kl s) D.L }) hb (Nat.le_refl _) (fun x hx => (mem_del.1 hx).2) (by simpa [hk] using hu) hc
  rw [← hk] at hg hR
  obtain ⟨k1, k2, k3, k4, k5, k6, k7⟩ := hX.putNew (f := ⟨kl s, kl t, (kl t).length⟩) hR (by
    intro b hb hz
    have e : w.heap.size = b := by simpa [Value.ownBlock] using hb
    have := h.lt hz
    omega) ok hm hg
  have q : Goes w0 w4 (zone p m G D.L) (zone p m G D.L) := (g.trans (Goes.of_below hB _)).trans ⟨k5, k6, k7, k4, fun b hb hz => k3 b hb fun e => hz (.inr (.inl e)), fun b hb => .inl hb⟩
  refine ⟨_, k1, q.os, q.tape, q.output, q.size, q.block, fun b hb => ?_⟩
  · rcases k2 b hb with c | c | c
    · exact .inl c
    · have e : w.heap.size = b := by simpa [Value.ownBlock] using c
      have := g.size
      exact .inr (by omega)
    · have := g.size
      have := hB.size
      exact .inr (by omega)
end
end Go.Proofs.Ytdmgobffhpgjlaa.Pk
end

section
namespace Go.Proofs.Ytdmgobffhpgjlaa.Pk
open Go.RowKit Go.PlainAid Go.Maps
set_option linter.unusedVariables false
set_option maxRecDepth 20000
set_option linter.unusedSimpArgs false

theorem onL_same {f : Fi} (h : f.sf = f.bs.length) (ks : List Int) (r : List Fi) : onL ks (f :: r) = f :: onL ks r := by
  cases ks <;> rw [onL, if_pos h]
theorem onL_none {f : Fi} (h : f.sf ≠ f.bs.length) (r : List Fi) : onL [] (f :: r) = ⟨f.nm, f.bs.take f.sf, f.sf⟩ :: onL [] r := by
  rw [onL, if_neg h]
theorem onL_some {f : Fi} (h : f.sf ≠ f.bs.length) (k : Int) (ks : List Int) (r : List Fi) : onL (k :: ks) (f :: r) = ⟨f.nm, f.bs.take (f.sf + (max k 0).toNat % (f.bs.length - f.sf + 1)), f.sf + (max k 0).toNat % (f.bs.length - f.sf + 1)⟩ :: onL ks r := by
  rw [onL, if_neg h]
theorem upd_mid {pre post : List Fi} {f g : Fi} (h : Up (pre ++ f :: post)) : updF f.nm g (pre ++ f :: post) = pre ++ g :: post := by
  have hne := h.ne
  rw [List.pairwise_append] at hne
  obtain ⟨_, h2, h3⟩ := hne
  obtain ⟨h4, _⟩ := List.pairwise_cons.1 h2
  have e1 : updF f.nm g pre = pre := upd_none fun x hx => h3 x hx f (by simp)
  have e2 : updF f.nm g post = post := upd_none fun x hx => (h4 x hx).symm
  unfold updF at e1 e2 ⊢
  rw [List.map_append, List.map_cons, e1, e2]
  simp
theorem keep_num (k : Int) (l : Nat) : (max k 0).tmod ((l : Int) + 1) = (((max k 0).toNat % (l + 1) : Nat) : Int) := by
  obtain ⟨n, hn⟩ : ∃ n : Nat, max k 0 = (n : Int) := ⟨(max k 0).toNat, by omega⟩
  rw [hn, Int.toNat_natCast, Int.tmod_eq_emod_of_nonneg (by omega)]
  push_cast
  rfl
/-- v is the row of numbers ks, in blocks that aren't in Z -/
def KeepAt (w : World) (Z : Nat → Prop) (v : Value) (ks : List Int) : Prop := ∃ base cap, v = .slice base ks.length cap ∧ ks.length ≤ cap ∧ ∀ j x, ks[j]? = some x → ∃ a : Addr, base = some a ∧ a.block < w.heap.size ∧ ¬ Z a.block ∧ w.cell? (a.add j) = some (.int .i64 x)
theorem add_block (a : Addr) (j : Nat) : (a.add j).block = a.block := by unfold Addr.add; split <;> rfl
theorem add_add (a : Addr) (i j : Nat) : (a.add i).add j = a.add (i + j) := by
  unfold Addr.add
  by_cases hi : i = 0
  · simp [hi]
  · by_cases hj : j = 0
    · simp [hi, hj]
    · simp [hi, hj, Nat.add_assoc]
theorem KeepAt.moved {w w' : World} {Z Z' Z'' : Nat → Prop} {v : Value} {ks : List Int} (h : KeepAt w Z v ks) (g : Goes w w' Z' Z'') (hz : ∀ b, Z' b → Z b) : KeepAt w' Z v ks := by
  obtain ⟨base, cap, e, hl, hc⟩ := h
  refine ⟨base, cap, e, hl, fun j x hj => ?_⟩
  obtain ⟨a, ea, hb, hn, hcell⟩ := hc j x hj
  refine ⟨a, ea, Nat.lt_of_lt_of_le hb g.size, hn, ?_⟩
  rw [World.cell?_of_block (w := w) (by rw [add_block]; exact g.block a.block hb fun z => hn (hz _ z))]
  exact hcell
section
variable {w w' : World} {p m : Nat} {G : Gs} {D : Dk}
theorem setG_self (G : Gs) (k : Bs) : setG G k (G k) = G := by
  funext n
  unfold setG
  split
  · rename_i e; rw [e]
  · rfl
theorem DiskAt.setSafe (h : DiskAt w p m G D) {f : Fi} (hf : f ∈ D.L) {n : Nat} (hn : n ≤ f.bs.length) :
    DiskAt (w.setCell ⟨(G f.nm).1, 1, none⟩ (.int .i64 (n : Int))) p m G { D with L := updF f.nm ⟨f.nm, f.bs, n⟩ D.L } ∧ Goes w (w.setCell ⟨(G f.nm).1, 1, none⟩ (.int .i64 (n : Int))) (zone p m G D.L) (zone p m G (updF f.nm ⟨f.nm, f.bs, n⟩ D.L)) := by
  have hF := h.file f hf
  have k := h.setFile (w' := w.setCell ⟨(G f.nm).1, 1, none⟩ (.int .i64 (n : Int))) hf (g := ⟨f.nm, f.bs, n⟩) (v := (G f.nm).2) rfl (h.ok.upd hf rfl hn (by have := h.ok.used; simp; omega))
    ⟨heap_set _ _ _ _ _ _ _ hF.st, row_same hF.row fun b hb => Below.heap_setCell _ _ _ _ fun e => h.gr hf hf hb e.symm⟩ (fun b _ hb _ => Below.heap_setCell _ _ _ _ hb) (fun b hb => .inl hb)
  have z := zone_setFile h hf (g := ⟨f.nm, f.bs, n⟩) (v := (G f.nm).2) rfl (fun b hb => .inl hb)
  have e : setG G f.nm ((G f.nm).1, (G f.nm).2) = G := setG_self G f.nm
  rw [e] at k z
  exact ⟨k, rfl, rfl, rfl, by simp, fun b hb hz => Below.heap_setCell _ _ _ _ fun e => hz (.inr (.inr ⟨f, hf, .inl e⟩)), z⟩
theorem DiskAt.setBytes (h : DiskAt w p m G D) {f : Fi} (hf : f ∈ D.L) {n : Nat} (hn : n ≤ f.bs.length) (hs : f.sf ≤ n) {v : Value} (hR : RowB w v (f.bs.take n)) (ho : v.ownBlock = (G f.nm).2.ownBlock) :
    DiskAt (w.setCell ⟨(G f.nm).1, 0, none⟩ v) p m (setG G f.nm ((G f.nm).1, v)) { D with L := updF f.nm ⟨f.nm, f.bs.take n, f.sf⟩ D.L } ∧ Goes w (w.setCell ⟨(G f.nm).1, 0, none⟩ v) (zone p m G D.L) (zone p m (setG G f.nm ((G f.nm).1, v)) (updF f.nm ⟨f.nm, f.bs.take n, f.sf⟩ D.L)) := by
  have hF := h.file f hf
  have hl : (f.bs.take n).length = n := by simp; omega
  have k := h.setFile (w' := w.setCell ⟨(G f.nm).1, 0, none⟩ v) hf (g := ⟨f.nm, f.bs.take n, f.sf⟩) (v := v) rfl (h.ok.upd hf rfl (by rw [hl]; exact hs) (by have := h.ok.used; simp; omega))
    ⟨heap_set _ _ _ _ _ _ _ hF.st, row_same hR fun b hb => Below.heap_setCell _ _ _ _ fun e => h.gr hf hf (ho ▸ hb) e.symm⟩ (fun b _ hb _ => Below.heap_setCell _ _ _ _ hb) (fun b hb => .inl (ho ▸ hb))
  have z := zone_setFile h hf (g := ⟨f.nm, f.bs.take n, f.sf⟩) (v := v) rfl (fun b hb => .inl (ho ▸ hb))
  exact ⟨k, rfl, rfl, rfl, by simp, fun b hb hz => Below.heap_setCell _ _ _ _ fun e => hz (.inr (.inr ⟨f, hf, .inl e⟩)), z⟩
theorem keep_cut (w : World) (a : Addr) (n cap : Nat) (hn : 1 ≤ n) :
    (Instr.sliceAt 47 (.slice (some a) n cap) (some (.int .i64 1)) none none).run Try.prog w = .ok (.slice (some (if cap = 1 then a else a.add 1)) (n - 1) (cap - 1)) w := by
  have h1 : (1 : Int) ≤ (n : Int) := by omega
  have hz : (sizeOf 3).run Try.prog w = .ok 1 w := size_of (by kernel_rfl) w
  by_cases h2 : cap = 1
  · simp [Instr.sliceAt, Instr.slice, run_underlying Try.underlying47, Instr.sliceBounds, run_sliceBound, hz, h1, h2]
  · simp [Instr.sliceAt, Instr.slice, run_underlying Try.underlying47, Instr.sliceBounds, run_sliceBound, hz, h1, h2]
theorem on_no (h : DiskAt w p m G D) (hoff : D.off = false) (v : Value) :
    Calls Try.prog 15 #[.pointer (some ⟨p, 0, none⟩), v] w fun e w' => e = .returned (.tuple #[]) ∧ w = w' := by
  have c3 := h.cell 3
  simp [headV, hoff] at c3
  clear h hoff
  go_enter Try.func15, Try.ntmps15
  go_wp2
  exact bodyPost_ret (v := .tuple #[]) (by simp [results, Try.results15, go_sem]) rfl ⟨rfl, rfl⟩
/-- where the loop stands -/
structure OnAt (w1 wr : World) (p m : Nat) (G : Gs) (D : Dk) (ks : List Int) (kv : Value) (k : Nat) : Prop where
  is : ∃ pre post ks' Gk, pre.length = k ∧ onL ks D.L = pre ++ onL ks' post ∧ (pre ++ post).map Fi.nm = D.L.map Fi.nm ∧ DiskAt wr p m Gk { D with off := false, L := pre ++ post } ∧ Goes w1 wr (zone p m G D.L) (zone p m Gk (pre ++ post)) ∧ KeepAt w1 (zone p m G D.L) kv ks'
set_option maxRecDepth 100000 in
set_option maxHeartbeats 4000000 in
theorem on_yes (h : DiskAt w p m G D) (hoff : D.off = true) {v : Value} {ks : List Int} (hk : KeepAt w (zone p m G D.L) v ks) (hkl : ks.length ≤ 1099511627776) :
    Calls Try.prog 15 #[.pointer (some ⟨p, 0, none⟩), v] w fun e w' => e = .returned (.tuple #[]) ∧ Post w w' p m G D { D with off := false, L := onL ks D.L } := by
  have c3 := h.cell 3
  have f3 := h.frozen 3
  simp [headV, hoff] at c3
  have ok1 : { D with off := false }.Ok := ⟨h.ok.room0, h.ok.room1, h.ok.ops0, h.ok.kd, h.ok.fa0, h.ok.fa1, h.ok.fm0, h.ok.fm1, h.ok.up, h.ok.names, h.ok.safe, h.ok.used, h.ok.cnt⟩
  obtain ⟨h1, g1⟩ := h.set (D' := { D with off := false }) rfl ok1 3 (.bool false) (by simp [headV])
  have LI := list_any h1
  have cn := h.ok.cnt
  have k1 := hk.moved g1 fun _ z => z
  have H1 := Lib.hid h1
  have G1 := Lib.hid g1
  have K1 := Lib.hid k1
  have ZL : ∀ b, zone p m G D.L b → b < w.heap.size := fun b hb => h.lt hb
  have ZH := Lib.hid ZL
  obtain ⟨kb, kc, rfl, _⟩ := hk
  clear h h1 g1 ok1 k1 ZL hoff
  go_enter Try.func15, Try.ntmps15
  go_wp2_with fail
  refine LI.mono ?_
  rintro e w1 ⟨nv, rfl, ⟨no, nc, rfl, hnm⟩, hb1⟩
  have hd1 : DiskAt w1 p m G { D with off := false } := H1.out.kept fun b hb => hb1.block b (H1.out.lt hb)
  have gd1 : Goes w w1 (zone p m G D.L) (zone p m G D.L) := G1.out.trans (Goes.of_below hb1 _)
  have kd1 := K1.out.moved (Goes.of_below hb1 (zone p m G D.L)) fun _ z => z
  have NM := Lib.hid hnm
  have HD := Lib.hid hd1
  have GD := Lib.hid gd1
  have KD := Lib.hid kd1
  clear LI H1 G1 K1 hnm hd1 gd1 kd1
  simp at hb1
  have S1 := hb1.size
  clear hb1
  go_wp2
  go_loopw [1, 23] (fun kv i wr => ∃ k : Nat, k ≤ D.L.length ∧ i = .int .i64 k ∧ OnAt w1 wr p m G D ks kv k) (fun _ i _ => D.L.length - (intOf i).toNat)
  case atStart => exact ⟨0, Nat.zero_le _, rfl, ⟨[], D.L, ks, G, rfl, rfl, rfl, HD.out, Goes.refl _ _, KD.out⟩⟩
  case round =>
    obtain ⟨k, hk, rfl, OA⟩ := hrel
    by_cases hlt : k < D.L.length
    · obtain ⟨pre, post, ks', Gk, e1, e2, e3, hd, gd, kp⟩ := OA.is
      clear OA
      have el : pre.length + post.length = D.L.length := by
        have := congrArg List.length e3
        simpa using this
      obtain ⟨f, post1, rfl⟩ : ∃ f r, post = f :: r := by
        cases post with
        | nil => simp at el; omega
        | cons f r => exact ⟨f, r, rfl⟩
      have hf : f ∈ pre ++ f :: post1 := by simp
      obtain ⟨f0, hf0⟩ : ∃ f0, D.L[k]? = some f0 := ⟨_, List.getElem?_eq_getElem hlt⟩
      have hn0 : f0.nm = f.nm := by
        have : (D.L.map Fi.nm)[k]? = some f.nm := by rw [← e3, ← e1]; simp
        rw [List.getElem?_map, hf0] at this
        simpa using this
      obtain ⟨g, rfl, gl, gs, gc⟩ := NM.out k f0 hf0
      simp at gl
      have gc : wr.cell? ⟨g, k, none⟩ = some (.string ⟨f.nm.toArray⟩) := by
        rw [World.cell?_of_block (w := w1) (gd.block g gs fun z => by have := ZH.out g z; omega), gc, nmV, hn0]
      have hF := hd.file f hf
      have hus := Nat.le_trans (mem_used hf) (used_small hd)
      have hfs := hd.ok.safe f hf
      have hfn := hd.ok.names f hf
      have hfl : f.nm.length ≤ 80 := by
        simp [isName] at hfn
        exact hfn.2
      have LK := hd.look (s := ⟨f.nm.toArray⟩) (by show f.nm.toArray.size ≤ _; simp; omega)
      rw [show kl ⟨f.nm.toArray⟩ = f.nm from rfl, get_mem hd.ok.up hf] at LK
      simp only [fp, Option.map_some] at LK
      have ch := hd.hand
      have d0 := hF.cell0
      have d1 := hF.cell1
      have l1 : (k : Int) < (D.L.length : Int) := by omega
      obtain ⟨kbase, kcap, rfl, kcl, kcells⟩ := kp
      obtain ⟨o, cap, ev, _⟩ := hF.row.form
      rw [ev] at d0
      have q1 : IntKind.i64.wrap ((f.bs.length : Int) - (f.sf : Int)) = (f.bs.length : Int) - (f.sf : Int) := IntWalk.i64_in _ (by omega)
      have HDQ := Lib.hid fun n => hd.drewN n
      have GDQ := Lib.hid fun n => gd.trans (Goes.drewN wr n _)
      have KC := Lib.hid kcells
      have E2 := Lib.hid e2
      have E3 := Lib.hid e3
      have HF := Lib.hid hf
      have EV := Lib.hid ev
      clear hd gd hF ev e2 e3 kcells hf0 hn0 hfn el hf
      go_wp2_with fail
      go_quiet (fail)
      have hd := HDQ.out nq
      have gd := GDQ.out nq
      clear HDQ GDQ d0 d1 gc LK ch
      generalize wr.drewN nq = wq at *
      have hF := hd.file f HF.out
      by_cases hsame : f.sf = f.bs.length
      · have REL : OnAt w1 wq p m G D ks (.slice kbase ks'.length kcap) (k + 1) := ⟨pre ++ [f], post1, ks', Gk, by simp [e1], by rw [E2.out, onL_same hsame]; simp, by simpa using E3.out, by simpa using hd, by simpa using gd, kbase, kcap, rfl, kcl, KC.out⟩
        have RH := Lib.hid REL
        have q2 : (f.bs.length : Int) - (f.sf : Int) = 0 := by omega
        rw [q2]
        clear REL hd gd hF e1 q1 q2
        go_wp2
        go_roundw
        case rel => exact ⟨k + 1, by omega, by go_num, RH.out⟩
        case measure => simp [intOf]; omega
      · have q2 : ¬ (f.bs.length : Int) - (f.sf : Int) = 0 := by omega
        obtain ⟨r, eo⟩ : ∃ r, o = some ⟨r, 0, none⟩ := by
          have := hF.row
          rw [EV.out] at this
          rcases this with ⟨_, e⟩ | ⟨r, cap', cur, fr, e, _⟩
          · rw [e] at hfs hsame
            simp at hfs hsame
            omega
          · injection e with e _ _
            exact ⟨r, e⟩
        subst eo
        have hR := hF.row
        rw [EV.out] at hR
        cases ks' with
        | nil =>
          have hdD : DiskAt wq.drew p m Gk { D with off := false, L := pre ++ f :: post1 } := hd.drewN 1
          have gdD : Goes w1 wq.drew (zone p m G D.L) (zone p m Gk (pre ++ f :: post1)) := gd.trans (Goes.drewN wq 1 _)
          have hRD : RowB wq.drew (.slice (some ⟨r, 0, none⟩) f.bs.length cap) f.bs := row_same hR fun b hb => rfl
          obtain ⟨hd2, gd2⟩ := hdD.setBytes HF.out hfs (Nat.le_refl _) (hRD.cut hfs) (by rw [EV.out]; rfl)
          have REL : OnAt w1 (wq.drew.setCell ⟨(Gk f.nm).1, 0, none⟩ (.slice (some ⟨r, 0, none⟩) f.sf cap)) p m G D ks (.slice kbase 0 kcap) (k + 1) := by
            have eu : updF f.nm ⟨f.nm, f.bs.take f.sf, f.sf⟩ (pre ++ f :: post1) = pre ++ ⟨f.nm, f.bs.take f.sf, f.sf⟩ :: post1 := upd_mid hd.ok.up
            refine ⟨pre ++ [⟨f.nm, f.bs.take f.sf, f.sf⟩], post1, [], setG Gk f.nm ((Gk f.nm).1, .slice (some ⟨r, 0, none⟩) f.sf cap), by simp [e1], by rw [E2.out, onL_none hsame]; simp, by simpa using E3.out, ?_, ?_, kbase, kcap, rfl, kcl, KC.out⟩
            · have := hd2
              simp only [eu] at this
              simpa using this
            · have := gdD.trans gd2
              simp only [eu] at this
              simpa using this
          have RH := Lib.hid REL
          have S2 := fun w => cut_to w r 0 f.bs.length cap f.sf (by rcases hR with ⟨e, _⟩ | ⟨r', cap', cur, fr, e, _, _, hl, _⟩; cases e; injection e with _ _ e; omega)
          have d0 := hF.cell0
          rw [EV.out] at d0
          have d1 := hF.cell1
          have z0 := hF.frozen 0
          clear REL hd gd hd2 gd2 hdD gdD hRD hF e1 q1 hR KC E2 E3 HF EV
          generalize (Gk f.nm).1 = gb at *
          generalize f.bs.length = len at *
          generalize f.sf = sf at *
          have q3 : ((len : Int) - (sf : Int) == 0) = false := by simpa using q2
          go_wp2
          go_still_tail 12, (by kernel_rfl)
          go_wp2
          go_roundw
          case rel => exact ⟨k + 1, by omega, by go_num, RH.out⟩
          case measure => simp [intOf]; omega
        | cons x ks'' =>
          obtain ⟨a, rfl, ha1, ha2, ha3⟩ := KC.out 0 x rfl
          have a0 : a.add 0 = a := by unfold Addr.add; rw [if_pos rfl]
          rw [a0] at ha3
          have kc0 : wq.cell? a = some (.int .i64 x) := by rw [World.cell?_of_block (w := w1) (gd.block a.block ha1 ha2)]; exact ha3
          have hdD : DiskAt wq.drew p m Gk { D with off := false, L := pre ++ f :: post1 } := hd.drewN 1
          have gdD : Goes w1 wq.drew (zone p m G D.L) (zone p m Gk (pre ++ f :: post1)) := gd.trans (Goes.drewN wq 1 _)
          have hkm : (max x 0).toNat % (f.bs.length - f.sf + 1) ≤ f.bs.length - f.sf := by
            have := Nat.mod_lt (max x 0).toNat (show 0 < f.bs.length - f.sf + 1 by omega)
            omega
          have kn := keep_num x (f.bs.length - f.sf)
          rw [show ((f.bs.length - f.sf : Nat) : Int) = (f.bs.length : Int) - (f.sf : Int) by omega] at kn
          have OS := onL_some hsame x ks'' post1
          generalize (max x 0).toNat % (f.bs.length - f.sf + 1) = km at *
          obtain ⟨hd2, gd2⟩ := hdD.setSafe HF.out (n := f.sf + km) (by omega)
          have eu : updF f.nm ⟨f.nm, f.bs, f.sf + km⟩ (pre ++ f :: post1) = pre ++ ⟨f.nm, f.bs, f.sf + km⟩ :: post1 := upd_mid hd.ok.up
          simp only [eu] at hd2 gd2
          have gd3 := gdD.trans gd2
          have K2 : KeepAt w1 (zone p m G D.L) (.slice (some (if kcap = 1 then a else a.add 1)) ks''.length (kcap - 1)) ks'' := by
            refine ⟨_, _, rfl, by simp at kcl; omega, fun j y hj => ?_⟩
            by_cases k1 : kcap = 1
            · have : ks'' = [] := List.eq_nil_of_length_eq_zero (by simp at kcl; omega)
              rw [this] at hj
              simp at hj
            · obtain ⟨a2, e5, b1, b2, b3⟩ := KC.out (j + 1) y (by simpa using hj)
              injection e5 with e5
              subst e5
              rw [if_neg k1]
              exact ⟨a.add 1, rfl, by rw [add_block]; exact b1, by rw [add_block]; exact b2, by rw [add_add, Nat.add_comm 1 j]; exact b3⟩
          have NEXT : ∀ wb, DiskAt wb p m Gk { D with off := false, L := pre ++ ⟨f.nm, f.bs, f.sf + km⟩ :: post1 } → Goes w1 wb (zone p m G D.L) (zone p m Gk (pre ++ ⟨f.nm, f.bs, f.sf + km⟩ :: post1)) →
              OnAt w1 (wb.drew.setCell ⟨(Gk f.nm).1, 0, none⟩ (.slice (some ⟨r, 0, none⟩) (f.sf + km) cap)) p m G D ks (.slice (some (if kcap = 1 then a else a.add 1)) ks''.length (kcap - 1)) (k + 1) ∧
              wb.cell? ⟨(Gk f.nm).1, 0, none⟩ = some (.slice (some ⟨r, 0, none⟩) f.bs.length cap) ∧ wb.cell? ⟨(Gk f.nm).1, 1, none⟩ = some (.int .i64 ((f.sf + km : Nat) : Int)) ∧ wb.frozen? ⟨(Gk f.nm).1, 0, none⟩ = false := by
            intro wb hb gb
            have hm1 : (⟨f.nm, f.bs, f.sf + km⟩ : Fi) ∈ pre ++ ⟨f.nm, f.bs, f.sf + km⟩ :: post1 := by simp
            have hbD : DiskAt wb.drew p m Gk { D with off := false, L := pre ++ ⟨f.nm, f.bs, f.sf + km⟩ :: post1 } := hb.drewN 1
            have hFb := hb.file _ hm1
            have hRb : RowB wb.drew (.slice (some ⟨r, 0, none⟩) f.bs.length cap) f.bs := by
              have := hFb.row
              simp only [EV.out] at this
              exact row_same this fun b hb => rfl
            obtain ⟨h4, g4⟩ := hbD.setBytes hm1 (n := f.sf + km) (by simp; omega) (Nat.le_refl _) (hRb.cut (by omega)) (by simp only [EV.out]; rfl)
            have eu2 : updF f.nm ⟨f.nm, f.bs.take (f.sf + km), f.sf + km⟩ (pre ++ ⟨f.nm, f.bs, f.sf + km⟩ :: post1) = pre ++ ⟨f.nm, f.bs.take (f.sf + km), f.sf + km⟩ :: post1 := upd_mid (f := ⟨f.nm, f.bs, f.sf + km⟩) hb.ok.up
            simp only [eu2] at h4 g4
            refine ⟨⟨pre ++ [⟨f.nm, f.bs.take (f.sf + km), f.sf + km⟩], post1, ks'', setG Gk f.nm ((Gk f.nm).1, .slice (some ⟨r, 0, none⟩) (f.sf + km) cap), by simp [e1], by rw [E2.out, OS]; simp, by simpa using E3.out, by simpa using h4, ?_, K2⟩, ?_, hFb.cell1, hFb.frozen 0⟩
            · have := (gb.trans (Goes.drewN wb 1 _)).trans g4
              simpa using this
            · have := hFb.cell0
              simp only [EV.out] at this
              exact this
          have NX := Lib.hid NEXT
          have HB := Lib.hid hd2
          have GB := Lib.hid gd3
          have S2 := fun w => cut_to w r 0 f.bs.length cap (f.sf + km) (by rcases hR with ⟨e, _⟩ | ⟨r', cap', cur, fr, e, _, _, hl, _⟩; cases e; injection e with _ _ e; omega)
          have S3 := fun w => keep_cut w a (ks''.length + 1) kcap (by omega)
          simp only [Nat.add_sub_cancel] at S3
          have d0 := hF.cell0
          rw [EV.out] at d0
          have d1 := hF.cell1
          have z1 := hF.frozen 1
          have pk : ((f.sf + km : Nat) : Int) = (f.sf : Int) + (km : Int) := by omega
          rw [pk] at HB GB
          simp only [pk] at NX S2
          clear NEXT hd gd hd2 gd2 gd3 hdD gdD hF e1 q1 hR KC E2 E3 HF EV eu OS K2 pk a0
          have q5 : IntKind.i64.wrap ((f.bs.length : Int) - (f.sf : Int) + 1) = (f.bs.length : Int) - (f.sf : Int) + 1 := IntWalk.i64_in _ (by omega)
          have q6 : IntKind.i64.wrap ((f.sf : Int) + (km : Int)) = (f.sf : Int) + (km : Int) := IntWalk.i64_in _ (by omega)
          have q7 : ¬ (f.bs.length : Int) - (f.sf : Int) + 1 = 0 := by omega
          generalize (Gk f.nm).1 = gb at *
          generalize (if kcap = 1 then a else a.add 1) = a1 at *
          have q3 : ((f.bs.length : Int) - (f.sf : Int) == 0) = false := by simpa using q2
          have kl0 : (0 : Int) < ((ks''.length + 1 : Nat) : Int) := by omega
          go_wp2_with fail
          go_still_tail 14, (by kernel_rfl)
          go_wp2_with fail
          have hb : DiskAt (wq.setCell ⟨gb, 1, none⟩ (.int .i64 ((f.sf : Int) + (km : Int)))).drew p m Gk { D with off := false, L := pre ++ ⟨f.nm, f.bs, f.sf + km⟩ :: post1 } := HB.out
          have gb' : Goes w1 (wq.setCell ⟨gb, 1, none⟩ (.int .i64 ((f.sf : Int) + (km : Int)))).drew (zone p m G D.L) (zone p m Gk (pre ++ ⟨f.nm, f.bs, f.sf + km⟩ :: post1)) := GB.out
          generalize World.drew _ = wb at hb gb' ⊢
          obtain ⟨REL, e0, e6, e7⟩ := NX.out wb hb gb'
          have RH := Lib.hid REL
          clear REL hb gb' HB GB NX d0 d1 z1 kc0 kn
          generalize f.bs.length = len at *
          go_still_tail 12, (by kernel_rfl)
          go_wp2
          go_roundw
          case rel => exact ⟨k + 1, by omega, by go_num, RH.out⟩
          case measure => simp [intOf]; omega
    · obtain ⟨pre, post, ks', Gk, e1, e2, e3, hd, gd, kp⟩ := OA.is
      have el : pre.length + post.length = D.L.length := by
        have := congrArg List.length e3
        simpa using this
      have ep : post = [] := List.eq_nil_of_length_eq_zero (by omega)
      subst ep
      have eo : ∀ l, onL l [] = [] := fun l => by cases l <;> rw [onL]
      have PO : Post w wr p m G D { D with off := false, L := onL ks D.L } := by
        refine ⟨Gk, ?_, GD.out.trans ?_⟩
        · rw [e2, eo]
          exact hd
        · show Goes _ _ _ (zone p m Gk (onL ks D.L))
          rw [e2, eo]
          exact gd
      have PH := Lib.hid PO
      obtain ⟨kbase, kcap, rfl, _⟩ := kp
      have l1 : ¬ (k : Int) < (D.L.length : Int) := by omega
      clear OA hd gd e1 e2 e3 PO
      go_wp2
      exact bodyPost_end (v := .tuple #[]) (by simp [results, Try.results15, go_sem]) rfl ⟨rfl, PH.out⟩
end
end Go.Proofs.Ytdmgobffhpgjlaa.Pk
end

section
namespace Go.Proofs.Ytdmgobffhpgjlaa.Pk
open Go.RowKit Go.PlainAid Go.Maps
set_option linter.unusedVariables false
set_option maxRecDepth 20000
set_option linter.unusedSimpArgs false

/-- the law's own disk; X: blocks of the law's own beside it -/
structure HasD (w0 w : World) (p : Nat) (D : Dk) (X : List (Nat × Obj)) : Prop where
  is : ∃ m G, DiskAt w p m G D ∧ (∀ b, zone p m G D.L b → w0.heap.size ≤ b) ∧ ∀ x ∈ X, w.heap[x.1]? = some x.2 ∧ ¬ zone p m G D.L x.1
  below : Below w0.heap.size w0 w
section
variable {w0 w w' : World} {p : Nat} {D D' : Dk} {f : Nat} {args : Array Value} {R : Ending → Prop} {X : List (Nat × Obj)}
theorem HasD.ok (h : HasD w0 w p D X) : D.Ok := by
  obtain ⟨m, G, hd, _⟩ := h.is
  exact hd.ok
theorem HasD.at (h : HasD w0 w p D X) {b : Nat} {o : Obj} (hx : (b, o) ∈ X) : w.heap[b]? = some o := by
  obtain ⟨m, G, _, _, hX⟩ := h.is
  exact (hX _ hx).1
theorem HasD.kept (h : HasD w0 w p D X) (hb : Below w.heap.size w w') : HasD w0 w' p D X := by
  obtain ⟨m, G, hd, hz, hX⟩ := h.is
  exact ⟨⟨m, G, hd.kept fun b z => hb.block b (hd.lt z), hz, fun x hx => ⟨by rw [hb.block x.1 (in_heap (hX x hx).1)]; exact (hX x hx).1, (hX x hx).2⟩⟩, h.below.trans (hb.mono h.below.size)⟩
theorem HasD.less (h : HasD w0 w p D X) {Y : List (Nat × Obj)} (hY : ∀ x ∈ Y, x ∈ X) : HasD w0 w p D Y := by
  obtain ⟨m, G, hd, hz, hX⟩ := h.is
  exact ⟨⟨m, G, hd, hz, fun x hx => hX x (hY x hx)⟩, h.below⟩
theorem HasD.none (h : HasD w0 w p D X) : HasD w0 w p D [] := h.less (by simp)
/-- a block that is made now is the law's own -/
theorem HasD.more (h : HasD w0 w p D X) (hb : Below w.heap.size w w') {b : Nat} {o : Obj} (hn : w.heap.size ≤ b) (ho : w'.heap[b]? = some o) : HasD w0 w' p D ((b, o) :: X) := by
  obtain ⟨m, G, hd, hz, hX⟩ := h.is
  refine ⟨⟨m, G, hd.kept fun b z => hb.block b (hd.lt z), hz, fun x hx => ?_⟩, h.below.trans (hb.mono h.below.size)⟩
  rcases List.mem_cons.1 hx with rfl | hx
  · exact ⟨ho, fun z => by have := hd.lt z; simp at this; omega⟩
  · exact ⟨by rw [hb.block x.1 (in_heap (hX x hx).1)]; exact (hX x hx).1, (hX x hx).2⟩
theorem HasD.alloc (h : HasD w0 w p D X) (o : Obj) : HasD w0 (w.alloc o) p D X := h.kept ((Below.refl _ _).alloc (Nat.le_refl _) _)
theorem HasD.drew (h : HasD w0 w p D X) : HasD w0 w.drew p D X := h.kept (Below.refl _ _).drew
theorem HasD.drewN (h : HasD w0 w p D X) (n : Nat) : HasD w0 (w.drewN n) p D X := h.kept ⟨rfl, rfl, rfl, Nat.le_refl _, fun _ _ => rfl⟩
theorem HasD.post {m : Nat} {G : Gs} (hd : DiskAt w p m G D) (hz : (∀ b, zone p m G D.L b → w0.heap.size ≤ b) ∧ ∀ x ∈ X, w.heap[x.1]? = some x.2 ∧ ¬ zone p m G D.L x.1) (hb : Below w0.heap.size w0 w) (hp : Post w w' p m G D D') : HasD w0 w' p D' X := by
  obtain ⟨G', hd', g⟩ := hp
  refine ⟨⟨m, G', hd', fun b z => ?_, fun x hx => ?_⟩, g.below hb hb.size hz.1⟩
  · rcases g.sub b z with c | c
    · exact hz.1 b c
    · exact Nat.le_trans hb.size c
  · obtain ⟨h1, h2⟩ := hz.2 x hx
    refine ⟨by rw [g.block x.1 (in_heap h1) h2]; exact h1, fun z => ?_⟩
    rcases g.sub x.1 z with c | c
    · exact h2 c
    · have := in_heap h1
      omega
theorem HasD.lift (h : HasD w0 w p D X) (c : ∀ m G, DiskAt w p m G D → Calls Try.prog f args w fun e w' => R e ∧ Post w w' p m G D D') : Calls Try.prog f args w fun e w' => R e ∧ HasD w0 w' p D' X := by
  obtain ⟨m, G, hd, hz⟩ := h.is
  exact (c m G hd).mono fun e w' ⟨r, hp⟩ => ⟨r, HasD.post hd hz h.below hp⟩
theorem HasD.same (h : HasD w0 w p D X) (hL : D'.L = D.L) (c : ∀ m G, DiskAt w p m G D → Calls Try.prog f args w fun e w' => R e ∧ DiskAt w' p m G D' ∧ Goes w w' (zone p m G D.L) (zone p m G D.L)) : Calls Try.prog f args w fun e w' => R e ∧ HasD w0 w' p D' X :=
  h.lift fun m G hd => (c m G hd).mono fun e w' ⟨r, hd', g⟩ => ⟨r, G, hd', by rw [hL]; exact g⟩
theorem HasD.asks (h : HasD w0 w p D X) {v : Value} (c : ∀ m G, DiskAt w p m G D → Calls Try.prog f args w fun e w' => e = .returned v ∧ w = w') : Calls Try.prog f args w fun e w' => e = .returned v ∧ w = w' := by
  obtain ⟨m, G, hd, _⟩ := h.is
  exact c m G hd
theorem has_new (w0 : World) {w : World} (hb : Below w0.heap.size w0 w) (room : Int) :
    Calls Try.prog 7 #[.int .i64 room] w fun e w' => ∃ p, e = .returned (.pointer (some ⟨p, 0, none⟩)) ∧ HasD w0 w' p (Dk.new room) [] := by
  refine (new_any room w).mono fun e w' ⟨he, hw⟩ => ⟨w.heap.size + 1, he, ?_⟩
  subst hw
  have b1 : Below w.heap.size w ((w.alloc (.map #[] 0)).alloc (.cells (headV w.heap.size (Dk.new room)) 57)) := ((Below.refl _ _).alloc (Nat.le_refl _) _).alloc (by simp) _
  refine ⟨⟨w.heap.size, fun _ => (0, .bool false), ⟨?_, ?_, by simp [Dk.new], by simp [Dk.new], Dk.Ok.new room⟩, ?_, by simp⟩, hb.trans (b1.mono hb.size)⟩
  · have := heap_alloc_new (w.alloc (.map #[] 0)) (.cells (headV w.heap.size (Dk.new room)) 57)
    simpa using this
  · exact (World.ownsMap_made w Try.prog 9 RF).alloc _
  · rintro b (rfl | rfl | ⟨x, hx, _⟩)
    · exact Nat.le_trans hb.size (by omega)
    · exact hb.size
    · simp [Dk.new] at hx
theorem has_create (h : HasD w0 w p D X) (ho : D.ops ≤ 1099511627776) {s : ByteArray} (hs : s.size ≤ 9223372036854775807) :
    Calls Try.prog 38 #[.pointer (some ⟨p, 0, none⟩), .string s] w fun e w' => e = .returned (.int .i64 (D.create (kl s)).1) ∧ HasD w0 w' p (D.create (kl s)).2 X := h.lift fun m G hd => create_any hd ho hs
theorem has_append (h : HasD w0 w p D X) (ho : D.ops ≤ 1099511627776) {s t : ByteArray} (hs : s.size ≤ 9223372036854775807) (ht : t.size ≤ 1099511627) :
    Calls Try.prog 29 #[.pointer (some ⟨p, 0, none⟩), .string s, .string t] w fun e w' => e = .returned (.int .i64 (D.append (kl s) (kl t)).1) ∧ HasD w0 w' p (D.append (kl s) (kl t)).2 X := h.lift fun m G hd => append_any hd ho hs ht
theorem has_read (h : HasD w0 w p D X) (ho : D.ops ≤ 1099511627776) {s : ByteArray} (hs : s.size ≤ 9223372036854775807) (pos n : Int) (hp : pos ≤ 9223372036854775807) (hn : n ≤ 9223372036854775807) :
    Calls Try.prog 39 #[.pointer (some ⟨p, 0, none⟩), .string s, .int .i64 pos, .int .i64 n] w fun e w' => e = .returned (.tuple #[.string ⟨(D.read (kl s) pos n).1.toArray⟩, .int .i64 (D.read (kl s) pos n).2.1]) ∧ HasD w0 w' p (D.read (kl s) pos n).2.2 X := h.lift fun m G hd => read_any hd ho hs pos n hp hn
theorem has_sync (h : HasD w0 w p D X) (ho : D.ops ≤ 1099511627776) {s : ByteArray} (hs : s.size ≤ 9223372036854775807) :
    Calls Try.prog 30 #[.pointer (some ⟨p, 0, none⟩), .string s] w fun e w' => e = .returned (.int .i64 (D.sync (kl s)).1) ∧ HasD w0 w' p (D.sync (kl s)).2 X := h.lift fun m G hd => sync_any hd ho hs
theorem has_rename (h : HasD w0 w p D X) (ho : D.ops ≤ 1099511627776) {s t : ByteArray} (hs : s.size ≤ 9223372036854775807) (ht : t.size ≤ 9223372036854775807) :
    Calls Try.prog 54 #[.pointer (some ⟨p, 0, none⟩), .string s, .string t] w fun e w' => e = .returned (.int .i64 (D.rename (kl s) (kl t)).1) ∧ HasD w0 w' p (D.rename (kl s) (kl t)).2 X := h.lift fun m G hd => rename_any hd ho hs ht
theorem has_delete (h : HasD w0 w p D X) (ho : D.ops ≤ 1099511627776) {s : ByteArray} (hs : s.size ≤ 9223372036854775807) :
    Calls Try.prog 55 #[.pointer (some ⟨p, 0, none⟩), .string s] w fun e w' => e = .returned (.int .i64 (D.delete (kl s)).1) ∧ HasD w0 w' p (D.delete (kl s)).2 X := h.lift fun m G hd => delete_any hd ho hs
theorem arm_L (D : Dk) (pos kind more : Int) : (D.arm pos kind more).L = D.L := by
  unfold Dk.arm
  split <;> rfl
theorem has_arm (h : HasD w0 w p D X) (ho : D.ops ≤ 1099511627776) (pos kind more : Int) (hm : more ≤ 9223372036854775807) :
    Calls Try.prog 9 #[.pointer (some ⟨p, 0, none⟩), .int .i64 pos, .int .i64 kind, .int .i64 more] w fun e w' => e = .returned (.tuple #[]) ∧ HasD w0 w' p (D.arm pos kind more) X := h.same (arm_L D pos kind more) fun m G hd => arm_any hd ho pos kind more hm
theorem has_off (h : HasD w0 w p D X) :
    Calls Try.prog 14 #[.pointer (some ⟨p, 0, none⟩)] w fun e w' => e = .returned (.tuple #[]) ∧ HasD w0 w' p D.offd X := h.same rfl fun m G hd => off_any hd
/-- numbers that lie ahead of the law, or in a block that was made just now -/
theorem on_post (h : HasD w0 w p D X) {v : Value} {ks : List Int} (hk : ∀ m G, DiskAt w p m G D → (∀ b, zone p m G D.L b → w0.heap.size ≤ b) → KeepAt w (zone p m G D.L) v ks) (hkl : ks.length ≤ 1099511627776) :
    Calls Try.prog 15 #[.pointer (some ⟨p, 0, none⟩), v] w fun e w' => e = .returned (.tuple #[]) ∧ HasD w0 w' p (D.on ks) X := by
  unfold Dk.on
  by_cases hoff : D.off = true
  · rw [if_pos hoff]
    obtain ⟨m, G, hd, hz⟩ := h.is
    exact (on_yes hd hoff (hk m G hd hz.1) hkl).mono fun e w' ⟨r, hp⟩ => ⟨r, HasD.post hd hz h.below hp⟩
  · rw [if_neg hoff]
    have hf : D.off = false := by simpa using hoff
    obtain ⟨m, G, hd, _⟩ := h.is
    exact (on_no hd hf v).mono fun e w' ⟨r, e'⟩ => ⟨r, e' ▸ h⟩
theorem has_on (h : HasD w0 w p D X) : Calls Try.prog 15 #[.pointer (some ⟨p, 0, none⟩), .slice none 0 0] w fun e w' => e = .returned (.tuple #[]) ∧ HasD w0 w' p (D.on []) X :=
  on_post h (fun m G _ _ => ⟨none, 0, rfl, Nat.le_refl _, by simp⟩) (by simp)
theorem has_on1 (h : HasD w0 w p D X) (x : Int) : Calls Try.prog 15 #[.pointer (some ⟨p, 0, none⟩), .slice (some ⟨w.heap.size, 0, none⟩) 1 1] (w.alloc (.cells #[.int .i64 x] 3)) fun e w' => e = .returned (.tuple #[]) ∧ HasD w0 w' p (D.on [x]) X := by
  obtain ⟨m, G, hd, hz⟩ := h.is
  unfold Dk.on
  have hA := hd.alloc (.cells #[.int .i64 x] 3)
  have hbA : Below w0.heap.size w0 (w.alloc (.cells #[.int .i64 x] 3)) := h.below.alloc h.below.size _
  have hzA : (∀ b, zone p m G D.L b → w0.heap.size ≤ b) ∧ ∀ y ∈ X, (w.alloc (.cells #[.int .i64 x] 3)).heap[y.1]? = some y.2 ∧ ¬ zone p m G D.L y.1 := ⟨hz.1, fun y hy => ⟨by rw [Below.heap_alloc _ _ _ (in_heap (hz.2 y hy).1)]; exact (hz.2 y hy).1, (hz.2 y hy).2⟩⟩
  by_cases hoff : D.off = true
  · rw [if_pos hoff]
    refine (on_yes hA hoff (ks := [x]) ⟨some ⟨w.heap.size, 0, none⟩, 1, rfl, Nat.le_refl _, fun j y hj => ?_⟩ (by simp)).mono fun e w' ⟨r, hp⟩ => ⟨r, HasD.post hA hzA hbA hp⟩
    rcases j with _ | j
    · simp at hj
      subst hj
      refine ⟨_, rfl, by simp, fun z => by have := hd.lt z; simp at this, ?_⟩
      simp [Addr.add]
    · simp at hj
  · rw [if_neg hoff]
    have hf : D.off = false := by simpa using hoff
    exact (on_no hA hf _).mono fun e w' ⟨r, e'⟩ => ⟨r, e' ▸ (h.alloc _)⟩
theorem has_used (h : HasD w0 w p D X) : Calls Try.prog 50 #[.pointer (some ⟨p, 0, none⟩)] w fun e w' => e = .returned (.int .i64 (usedF D.L : Int)) ∧ HasD w0 w' p D X ∧ Below w.heap.size w w' := by
  obtain ⟨m, G, hd, _⟩ := h.is
  exact (used_any hd).mono fun e w' ⟨r, hb⟩ => ⟨r, h.kept hb, hb⟩
theorem has_list (h : HasD w0 w p D X) : Calls Try.prog 31 #[.pointer (some ⟨p, 0, none⟩)] w fun e w' => ∃ v, e = .returned v ∧ NmAt w' w.heap.size v D.L ∧ HasD w0 w' p D X ∧ Below w.heap.size w w' := by
  obtain ⟨m, G, hd, _⟩ := h.is
  exact (list_any hd).mono fun e w' ⟨v, r, hn, hb⟩ => ⟨v, r, hn, h.kept hb, hb⟩
theorem has_size (h : HasD w0 w p D X) {s : ByteArray} (hs : s.size ≤ 9223372036854775807) : Calls Try.prog 21 #[.pointer (some ⟨p, 0, none⟩), .string s] w fun e w' => e = .returned (.int .i64 (D.size (kl s))) ∧ w = w' := h.asks fun m G hd => size_any hd hs
end

/-! ### the first look -/
def fN : Bs := [102]
def aw0 : Dk := Dk.new 100
def aw1 : Dk := ⟨100, 1, false, 0, 0, 0, [⟨[102], [], 0⟩]⟩
def aw2 : Dk := ⟨100, 2, false, 0, 0, 0, [⟨[102], [97, 98, 99], 0⟩]⟩
def aw3 : Dk := ⟨100, 3, false, 0, 0, 0, [⟨[102], [97, 98, 99], 3⟩]⟩
def aw4 : Dk := ⟨100, 4, false, 0, 0, 0, [⟨[102], [97, 98, 99, 100, 101], 3⟩]⟩
def aw5 : Dk := ⟨100, 4, true, 0, 0, 0, [⟨[102], [97, 98, 99, 100, 101], 3⟩]⟩
def aw6 : Dk := ⟨100, 4, false, 0, 0, 0, [⟨[102], [97, 98, 99, 100], 4⟩]⟩
def aw7 : Dk := ⟨100, 5, false, 0, 0, 0, [⟨[102], [97, 98, 99, 100], 4⟩]⟩
def aw8 : Dk := ⟨100, 6, false, 0, 0, 0, [⟨[102], [97, 98, 99, 100], 4⟩]⟩
def aw9 : Dk := ⟨100, 7, false, 0, 0, 0, [⟨[102], [97, 98, 99, 100], 4⟩]⟩
theorem st1 : aw0.create [102] = (0, aw1) := by rfl
theorem st2 : aw1.append [102] [97, 98, 99] = (0, aw2) := by rfl
theorem st3 : aw2.sync [102] = (0, aw3) := by rfl
theorem st4 : aw3.append [102] [100, 101] = (0, aw4) := by rfl
theorem st5 : aw4.offd = aw5 := by rfl
theorem st6 : aw5.sync [102] = (12, aw5) := by rfl
theorem st7 : aw5.on [1] = aw6 := by rfl
theorem st8 : aw6.read [102] 1 9 = ([98, 99, 100], 0, aw7) := by rfl
theorem st9 : aw7.create [102] = (9, aw8) := by rfl
theorem st10 : usedF aw8.L = 4 := by rfl
theorem st11 : aw8.delete [103] = (7, aw9) := by rfl
end Go.Proofs.Ytdmgobffhpgjlaa.Pk
end
