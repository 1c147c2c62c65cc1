/-
  Contract of On: the power comes again; of each file that has unsafe bytes as many are kept as the numbers say.
-/
import Derived.Test.YtdmgobffhpgjlaaGreatPkOps4
namespace Go.Proofs.YtdmgobffhpgjlaaGreat.Pk
open Go.RowKit Go.PlainAid Go.Maps
set_option linter.unusedVariables false
set_option maxRecDepth 20000
set_option linter.unusedSimpArgs false

theorem onL_same {f : Fi} (h : f.sf = f.bs.length) (ks : List Int) (r : List Fi) : onL ks (f :: r) = f :: onL ks r := by
  cases ks <;> rw [onL, if_pos h]
theorem onL_none {f : Fi} (h : f.sf ≠ f.bs.length) (r : List Fi) : onL [] (f :: r) = ⟨f.nm, f.bs.take f.sf, f.sf⟩ :: onL [] r := by
  rw [onL, if_neg h]
theorem onL_some {f : Fi} (h : f.sf ≠ f.bs.length) (k : Int) (ks : List Int) (r : List Fi) : onL (k :: ks) (f :: r) = ⟨f.nm, f.bs.take (f.sf + (max k 0).toNat % (f.bs.length - f.sf + 1)), f.sf + (max k 0).toNat % (f.bs.length - f.sf + 1)⟩ :: onL ks r := by
  rw [onL, if_neg h]
theorem upd_mid {pre post : List Fi} {f g : Fi} (h : Up (pre ++ f :: post)) : updF f.nm g (pre ++ f :: post) = pre ++ g :: post := by
  have hne := h.ne
  rw [List.pairwise_append] at hne
  obtain ⟨_, h2, h3⟩ := hne
  obtain ⟨h4, _⟩ := List.pairwise_cons.1 h2
  have e1 : updF f.nm g pre = pre := upd_none fun x hx => h3 x hx f (by simp)
  have e2 : updF f.nm g post = post := upd_none fun x hx => (h4 x hx).symm
  unfold updF at e1 e2 ⊢
  rw [List.map_append, List.map_cons, e1, e2]
  simp
theorem keep_num (k : Int) (l : Nat) : (max k 0).tmod ((l : Int) + 1) = (((max k 0).toNat % (l + 1) : Nat) : Int) := by
  obtain ⟨n, hn⟩ : ∃ n : Nat, max k 0 = (n : Int) := ⟨(max k 0).toNat, by omega⟩
  rw [hn, Int.toNat_natCast, Int.tmod_eq_emod_of_nonneg (by omega)]
  push_cast
  rfl
/-- v is the row of numbers ks, in blocks that aren't in Z -/
def KeepAt (w : World) (Z : Nat → Prop) (v : Value) (ks : List Int) : Prop := ∃ base cap, v = .slice base ks.length cap ∧ ks.length ≤ cap ∧ ∀ j x, ks[j]? = some x → ∃ a : Addr, base = some a ∧ a.block < w.heap.size ∧ ¬ Z a.block ∧ w.cell? (a.add j) = some (.int .i64 x)
theorem add_block (a : Addr) (j : Nat) : (a.add j).block = a.block := by unfold Addr.add; split <;> rfl
theorem add_add (a : Addr) (i j : Nat) : (a.add i).add j = a.add (i + j) := by
  unfold Addr.add
  by_cases hi : i = 0
  · simp [hi]
  · by_cases hj : j = 0
    · simp [hi, hj]
    · simp [hi, hj, Nat.add_assoc]
theorem KeepAt.moved {w w' : World} {Z Z' Z'' : Nat → Prop} {v : Value} {ks : List Int} (h : KeepAt w Z v ks) (g : Goes w w' Z' Z'') (hz : ∀ b, Z' b → Z b) : KeepAt w' Z v ks := by
  obtain ⟨base, cap, e, hl, hc⟩ := h
  refine ⟨base, cap, e, hl, fun j x hj => ?_⟩
  obtain ⟨a, ea, hb, hn, hcell⟩ := hc j x hj
  refine ⟨a, ea, Nat.lt_of_lt_of_le hb g.size, hn, ?_⟩
  rw [World.cell?_of_block (w := w) (by rw [add_block]; exact g.block a.block hb fun z => hn (hz _ z))]
  exact hcell
section
variable {w w' : World} {p m : Nat} {G : Gs} {D : Dk}
theorem setG_self (G : Gs) (k : Bs) : setG G k (G k) = G := by
  funext n
  unfold setG
  split
  · rename_i e; rw [e]
  · rfl
theorem DiskAt.setSafe (h : DiskAt w p m G D) {f : Fi} (hf : f ∈ D.L) {n : Nat} (hn : n ≤ f.bs.length) :
    DiskAt (w.setCell ⟨(G f.nm).1, 1, none⟩ (.int .i64 (n : Int))) p m G { D with L := updF f.nm ⟨f.nm, f.bs, n⟩ D.L } ∧ Goes w (w.setCell ⟨(G f.nm).1, 1, none⟩ (.int .i64 (n : Int))) (zone p m G D.L) (zone p m G (updF f.nm ⟨f.nm, f.bs, n⟩ D.L)) := by
  have hF := h.file f hf
  have k := h.setFile (w' := w.setCell ⟨(G f.nm).1, 1, none⟩ (.int .i64 (n : Int))) hf (g := ⟨f.nm, f.bs, n⟩) (v := (G f.nm).2) rfl (h.ok.upd hf rfl hn (by have := h.ok.used; simp; omega))
    ⟨heap_set _ _ _ _ _ _ _ hF.st, row_same hF.row fun b hb => Below.heap_setCell _ _ _ _ fun e => h.gr hf hf hb e.symm⟩ (fun b _ hb _ => Below.heap_setCell _ _ _ _ hb) (fun b hb => .inl hb)
  have z := zone_setFile h hf (g := ⟨f.nm, f.bs, n⟩) (v := (G f.nm).2) rfl (fun b hb => .inl hb)
  have e : setG G f.nm ((G f.nm).1, (G f.nm).2) = G := setG_self G f.nm
  rw [e] at k z
  exact ⟨k, rfl, rfl, rfl, by simp, fun b hb hz => Below.heap_setCell _ _ _ _ fun e => hz (.inr (.inr ⟨f, hf, .inl e⟩)), z⟩
theorem DiskAt.setBytes (h : DiskAt w p m G D) {f : Fi} (hf : f ∈ D.L) {n : Nat} (hn : n ≤ f.bs.length) (hs : f.sf ≤ n) {v : Value} (hR : RowB w v (f.bs.take n)) (ho : v.ownBlock = (G f.nm).2.ownBlock) :
    DiskAt (w.setCell ⟨(G f.nm).1, 0, none⟩ v) p m (setG G f.nm ((G f.nm).1, v)) { D with L := updF f.nm ⟨f.nm, f.bs.take n, f.sf⟩ D.L } ∧ Goes w (w.setCell ⟨(G f.nm).1, 0, none⟩ v) (zone p m G D.L) (zone p m (setG G f.nm ((G f.nm).1, v)) (updF f.nm ⟨f.nm, f.bs.take n, f.sf⟩ D.L)) := by
  have hF := h.file f hf
  have hl : (f.bs.take n).length = n := by simp; omega
  have k := h.setFile (w' := w.setCell ⟨(G f.nm).1, 0, none⟩ v) hf (g := ⟨f.nm, f.bs.take n, f.sf⟩) (v := v) rfl (h.ok.upd hf rfl (by rw [hl]; exact hs) (by have := h.ok.used; simp; omega))
    ⟨heap_set _ _ _ _ _ _ _ hF.st, row_same hR fun b hb => Below.heap_setCell _ _ _ _ fun e => h.gr hf hf (ho ▸ hb) e.symm⟩ (fun b _ hb _ => Below.heap_setCell _ _ _ _ hb) (fun b hb => .inl (ho ▸ hb))
  have z := zone_setFile h hf (g := ⟨f.nm, f.bs.take n, f.sf⟩) (v := v) rfl (fun b hb => .inl (ho ▸ hb))
  exact ⟨k, rfl, rfl, rfl, by simp, fun b hb hz => Below.heap_setCell _ _ _ _ fun e => hz (.inr (.inr ⟨f, hf, .inl e⟩)), z⟩
theorem keep_cut (w : World) (a : Addr) (n cap : Nat) (hn : 1 ≤ n) :
    (Instr.sliceAt 49 (.slice (some a) n cap) (some (.int .i64 1)) none none).run Tryz.prog w = .ok (.slice (some (if cap = 1 then a else a.add 1)) (n - 1) (cap - 1)) w := by
  have h1 : (1 : Int) ≤ (n : Int) := by omega
  have hz : (sizeOf 3).run Tryz.prog w = .ok 1 w := size_of (by kernel_rfl) w
  by_cases h2 : cap = 1
  · simp [Instr.sliceAt, Instr.slice, run_underlying Tryz.underlying49, Instr.sliceBounds, run_sliceBound, hz, h1, h2]
  · simp [Instr.sliceAt, Instr.slice, run_underlying Tryz.underlying49, Instr.sliceBounds, run_sliceBound, hz, h1, h2]
theorem on_no (h : DiskAt w p m G D) (hoff : D.off = false) (v : Value) :
    Calls Tryz.prog 15 #[.pointer (some ⟨p, 0, none⟩), v] w fun e w' => e = .returned (.tuple #[]) ∧ w = w' := by
  have c3 := h.cell 3
  simp [headV, hoff] at c3
  clear h hoff
  go_enter Tryz.func15, Tryz.ntmps15
  go_wp2
  exact bodyPost_ret (v := .tuple #[]) (by simp [results, Tryz.results15, go_sem]) rfl ⟨rfl, rfl⟩
/-- where the loop stands -/
structure OnAt (w1 wr : World) (p m : Nat) (G : Gs) (D : Dk) (ks : List Int) (kv : Value) (k : Nat) : Prop where
  is : ∃ pre post ks' Gk, pre.length = k ∧ onL ks D.L = pre ++ onL ks' post ∧ (pre ++ post).map Fi.nm = D.L.map Fi.nm ∧ DiskAt wr p m Gk { D with off := false, L := pre ++ post } ∧ Goes w1 wr (zone p m G D.L) (zone p m Gk (pre ++ post)) ∧ KeepAt w1 (zone p m G D.L) kv ks'
set_option maxRecDepth 100000 in
set_option maxHeartbeats 4000000 in
theorem on_yes (h : DiskAt w p m G D) (hoff : D.off = true) {v : Value} {ks : List Int} (hk : KeepAt w (zone p m G D.L) v ks) (hkl : ks.length ≤ 1099511627776) :
    Calls Tryz.prog 15 #[.pointer (some ⟨p, 0, none⟩), v] w fun e w' => e = .returned (.tuple #[]) ∧ Post w w' p m G D { D with off := false, L := onL ks D.L } := by
  have c3 := h.cell 3
  have f3 := h.frozen 3
  simp [headV, hoff] at c3
  have ok1 : { D with off := false }.Ok := ⟨h.ok.room0, h.ok.room1, h.ok.ops0, h.ok.kd, h.ok.fa0, h.ok.fa1, h.ok.fm0, h.ok.fm1, h.ok.up, h.ok.names, h.ok.safe, h.ok.used, h.ok.cnt⟩
  obtain ⟨h1, g1⟩ := h.set (D' := { D with off := false }) rfl ok1 3 (.bool false) (by simp [headV])
  have LI := list_any h1
  have cn := h.ok.cnt
  have k1 := hk.moved g1 fun _ z => z
  have H1 := Lib.hid h1
  have G1 := Lib.hid g1
  have K1 := Lib.hid k1
  have ZL : ∀ b, zone p m G D.L b → b < w.heap.size := fun b hb => h.lt hb
  have ZH := Lib.hid ZL
  obtain ⟨kb, kc, rfl, _⟩ := hk
  clear h h1 g1 ok1 k1 ZL hoff
  go_enter Tryz.func15, Tryz.ntmps15
  go_wp2_with fail
  refine LI.mono ?_
  rintro e w1 ⟨nv, rfl, ⟨no, nc, rfl, hnm⟩, hb1⟩
  have hd1 : DiskAt w1 p m G { D with off := false } := H1.out.kept fun b hb => hb1.block b (H1.out.lt hb)
  have gd1 : Goes w w1 (zone p m G D.L) (zone p m G D.L) := G1.out.trans (Goes.of_below hb1 _)
  have kd1 := K1.out.moved (Goes.of_below hb1 (zone p m G D.L)) fun _ z => z
  have NM := Lib.hid hnm
  have HD := Lib.hid hd1
  have GD := Lib.hid gd1
  have KD := Lib.hid kd1
  clear LI H1 G1 K1 hnm hd1 gd1 kd1
  simp at hb1
  have S1 := hb1.size
  clear hb1
  go_wp2
  go_loopw [1, 23] (fun kv i wr => ∃ k : Nat, k ≤ D.L.length ∧ i = .int .i64 k ∧ OnAt w1 wr p m G D ks kv k) (fun _ i _ => D.L.length - (intOf i).toNat)
  case atStart => exact ⟨0, Nat.zero_le _, rfl, ⟨[], D.L, ks, G, rfl, rfl, rfl, HD.out, Goes.refl _ _, KD.out⟩⟩
  case round =>
    obtain ⟨k, hk, rfl, OA⟩ := hrel
    by_cases hlt : k < D.L.length
    · obtain ⟨pre, post, ks', Gk, e1, e2, e3, hd, gd, kp⟩ := OA.is
      clear OA
      have el : pre.length + post.length = D.L.length := by
        have := congrArg List.length e3
        simpa using this
      obtain ⟨f, post1, rfl⟩ : ∃ f r, post = f :: r := by
        cases post with
        | nil => simp at el; omega
        | cons f r => exact ⟨f, r, rfl⟩
      have hf : f ∈ pre ++ f :: post1 := by simp
      obtain ⟨f0, hf0⟩ : ∃ f0, D.L[k]? = some f0 := ⟨_, List.getElem?_eq_getElem hlt⟩
      have hn0 : f0.nm = f.nm := by
        have : (D.L.map Fi.nm)[k]? = some f.nm := by rw [← e3, ← e1]; simp
        rw [List.getElem?_map, hf0] at this
        simpa using this
      obtain ⟨g, rfl, gl, gs, gc⟩ := NM.out k f0 hf0
      simp at gl
      have gc : wr.cell? ⟨g, k, none⟩ = some (.string ⟨f.nm.toArray⟩) := by
        rw [World.cell?_of_block (w := w1) (gd.block g gs fun z => by have := ZH.out g z; omega), gc, nmV, hn0]
      have hF := hd.file f hf
      have hus := Nat.le_trans (mem_used hf) (used_small hd)
      have hfs := hd.ok.safe f hf
      have hfn := hd.ok.names f hf
      have hfl : f.nm.length ≤ 80 := by
        simp [isName] at hfn
        exact hfn.2
      have LK := hd.look (s := ⟨f.nm.toArray⟩) (by show f.nm.toArray.size ≤ _; simp; omega)
      rw [show kl ⟨f.nm.toArray⟩ = f.nm from rfl, get_mem hd.ok.up hf] at LK
      simp only [fp, Option.map_some] at LK
      have ch := hd.hand
      have d0 := hF.cell0
      have d1 := hF.cell1
      have l1 : (k : Int) < (D.L.length : Int) := by omega
      obtain ⟨kbase, kcap, rfl, kcl, kcells⟩ := kp
      obtain ⟨o, cap, ev, _⟩ := hF.row.form
      rw [ev] at d0
      have q1 : IntKind.i64.wrap ((f.bs.length : Int) - (f.sf : Int)) = (f.bs.length : Int) - (f.sf : Int) := IntWalk.i64_in _ (by omega)
      have HDQ := Lib.hid fun n => hd.drewN n
      have GDQ := Lib.hid fun n => gd.trans (Goes.drewN wr n _)
      have KC := Lib.hid kcells
      have E2 := Lib.hid e2
      have E3 := Lib.hid e3
      have HF := Lib.hid hf
      have EV := Lib.hid ev
      clear hd gd hF ev e2 e3 kcells hf0 hn0 hfn el hf
      go_wp2_with fail
      go_quiet (fail)
      have hd := HDQ.out nq
      have gd := GDQ.out nq
      clear HDQ GDQ d0 d1 gc LK ch
      generalize wr.drewN nq = wq at *
      have hF := hd.file f HF.out
      by_cases hsame : f.sf = f.bs.length
      · have REL : OnAt w1 wq p m G D ks (.slice kbase ks'.length kcap) (k + 1) := ⟨pre ++ [f], post1, ks', Gk, by simp [e1], by rw [E2.out, onL_same hsame]; simp, by simpa using E3.out, by simpa using hd, by simpa using gd, kbase, kcap, rfl, kcl, KC.out⟩
        have RH := Lib.hid REL
        have q2 : (f.bs.length : Int) - (f.sf : Int) = 0 := by omega
        rw [q2]
        clear REL hd gd hF e1 q1 q2
        go_wp2
        go_roundw
        case rel => exact ⟨k + 1, by omega, by go_num, RH.out⟩
        case measure => simp [intOf]; omega
      · have q2 : ¬ (f.bs.length : Int) - (f.sf : Int) = 0 := by omega
        obtain ⟨r, eo⟩ : ∃ r, o = some ⟨r, 0, none⟩ := by
          have := hF.row
          rw [EV.out] at this
          rcases this with ⟨_, e⟩ | ⟨r, cap', cur, fr, e, _⟩
          · rw [e] at hfs hsame
            simp at hfs hsame
            omega
          · injection e with e _ _
            exact ⟨r, e⟩
        subst eo
        have hR := hF.row
        rw [EV.out] at hR
        cases ks' with
        | nil =>
          have hdD : DiskAt wq.drew p m Gk { D with off := false, L := pre ++ f :: post1 } := hd.drewN 1
          have gdD : Goes w1 wq.drew (zone p m G D.L) (zone p m Gk (pre ++ f :: post1)) := gd.trans (Goes.drewN wq 1 _)
          have hRD : RowB wq.drew (.slice (some ⟨r, 0, none⟩) f.bs.length cap) f.bs := row_same hR fun b hb => rfl
          obtain ⟨hd2, gd2⟩ := hdD.setBytes HF.out hfs (Nat.le_refl _) (hRD.cut hfs) (by rw [EV.out]; rfl)
          have REL : OnAt w1 (wq.drew.setCell ⟨(Gk f.nm).1, 0, none⟩ (.slice (some ⟨r, 0, none⟩) f.sf cap)) p m G D ks (.slice kbase 0 kcap) (k + 1) := by
            have eu : updF f.nm ⟨f.nm, f.bs.take f.sf, f.sf⟩ (pre ++ f :: post1) = pre ++ ⟨f.nm, f.bs.take f.sf, f.sf⟩ :: post1 := upd_mid hd.ok.up
            refine ⟨pre ++ [⟨f.nm, f.bs.take f.sf, f.sf⟩], post1, [], setG Gk f.nm ((Gk f.nm).1, .slice (some ⟨r, 0, none⟩) f.sf cap), by simp [e1], by rw [E2.out, onL_none hsame]; simp, by simpa using E3.out, ?_, ?_, kbase, kcap, rfl, kcl, KC.out⟩
            · have := hd2
              simp only [eu] at this
              simpa using this
            · have := gdD.trans gd2
              simp only [eu] at this
              simpa using this
          have RH := Lib.hid REL
          have S2 := fun w => cut_to w r 0 f.bs.length cap f.sf (by rcases hR with ⟨e, _⟩ | ⟨r', cap', cur, fr, e, _, _, hl, _⟩; cases e; injection e with _ _ e; omega)
          have d0 := hF.cell0
          rw [EV.out] at d0
          have d1 := hF.cell1
          have z0 := hF.frozen 0
          clear REL hd gd hd2 gd2 hdD gdD hRD hF e1 q1 hR KC E2 E3 HF EV
          generalize (Gk f.nm).1 = gb at *
          generalize f.bs.length = len at *
          generalize f.sf = sf at *
          have q3 : ((len : Int) - (sf : Int) == 0) = false := by simpa using q2
          go_wp2
          go_still_tail 12, (by kernel_rfl)
          go_wp2
          go_roundw
          case rel => exact ⟨k + 1, by omega, by go_num, RH.out⟩
          case measure => simp [intOf]; omega
        | cons x ks'' =>
          obtain ⟨a, rfl, ha1, ha2, ha3⟩ := KC.out 0 x rfl
          have a0 : a.add 0 = a := by unfold Addr.add; rw [if_pos rfl]
          rw [a0] at ha3
          have kc0 : wq.cell? a = some (.int .i64 x) := by rw [World.cell?_of_block (w := w1) (gd.block a.block ha1 ha2)]; exact ha3
          have hdD : DiskAt wq.drew p m Gk { D with off := false, L := pre ++ f :: post1 } := hd.drewN 1
          have gdD : Goes w1 wq.drew (zone p m G D.L) (zone p m Gk (pre ++ f :: post1)) := gd.trans (Goes.drewN wq 1 _)
          have hkm : (max x 0).toNat % (f.bs.length - f.sf + 1) ≤ f.bs.length - f.sf := by
            have := Nat.mod_lt (max x 0).toNat (show 0 < f.bs.length - f.sf + 1 by omega)
            omega
          have kn := keep_num x (f.bs.length - f.sf)
          rw [show ((f.bs.length - f.sf : Nat) : Int) = (f.bs.length : Int) - (f.sf : Int) by omega] at kn
          have OS := onL_some hsame x ks'' post1
          generalize (max x 0).toNat % (f.bs.length - f.sf + 1) = km at *
          obtain ⟨hd2, gd2⟩ := hdD.setSafe HF.out (n := f.sf + km) (by omega)
          have eu : updF f.nm ⟨f.nm, f.bs, f.sf + km⟩ (pre ++ f :: post1) = pre ++ ⟨f.nm, f.bs, f.sf + km⟩ :: post1 := upd_mid hd.ok.up
          simp only [eu] at hd2 gd2
          have gd3 := gdD.trans gd2
          have K2 : KeepAt w1 (zone p m G D.L) (.slice (some (if kcap = 1 then a else a.add 1)) ks''.length (kcap - 1)) ks'' := by
            refine ⟨_, _, rfl, by simp at kcl; omega, fun j y hj => ?_⟩
            by_cases k1 : kcap = 1
            · have : ks'' = [] := List.eq_nil_of_length_eq_zero (by simp at kcl; omega)
              rw [this] at hj
              simp at hj
            · obtain ⟨a2, e5, b1, b2, b3⟩ := KC.out (j + 1) y (by simpa using hj)
              injection e5 with e5
              subst e5
              rw [if_neg k1]
              exact ⟨a.add 1, rfl, by rw [add_block]; exact b1, by rw [add_block]; exact b2, by rw [add_add, Nat.add_comm 1 j]; exact b3⟩
          have NEXT : ∀ wb, DiskAt wb p m Gk { D with off := false, L := pre ++ ⟨f.nm, f.bs, f.sf + km⟩ :: post1 } → Goes w1 wb (zone p m G D.L) (zone p m Gk (pre ++ ⟨f.nm, f.bs, f.sf + km⟩ :: post1)) →
              OnAt w1 (wb.drew.setCell ⟨(Gk f.nm).1, 0, none⟩ (.slice (some ⟨r, 0, none⟩) (f.sf + km) cap)) p m G D ks (.slice (some (if kcap = 1 then a else a.add 1)) ks''.length (kcap - 1)) (k + 1) ∧
              wb.cell? ⟨(Gk f.nm).1, 0, none⟩ = some (.slice (some ⟨r, 0, none⟩) f.bs.length cap) ∧ wb.cell? ⟨(Gk f.nm).1, 1, none⟩ = some (.int .i64 ((f.sf + km : Nat) : Int)) ∧ wb.frozen? ⟨(Gk f.nm).1, 0, none⟩ = false := by
            intro wb hb gb
            have hm1 : (⟨f.nm, f.bs, f.sf + km⟩ : Fi) ∈ pre ++ ⟨f.nm, f.bs, f.sf + km⟩ :: post1 := by simp
            have hbD : DiskAt wb.drew p m Gk { D with off := false, L := pre ++ ⟨f.nm, f.bs, f.sf + km⟩ :: post1 } := hb.drewN 1
            have hFb := hb.file _ hm1
            have hRb : RowB wb.drew (.slice (some ⟨r, 0, none⟩) f.bs.length cap) f.bs := by
              have := hFb.row
              simp only [EV.out] at this
              exact row_same this fun b hb => rfl
            obtain ⟨h4, g4⟩ := hbD.setBytes hm1 (n := f.sf + km) (by simp; omega) (Nat.le_refl _) (hRb.cut (by omega)) (by simp only [EV.out]; rfl)
            have eu2 : updF f.nm ⟨f.nm, f.bs.take (f.sf + km), f.sf + km⟩ (pre ++ ⟨f.nm, f.bs, f.sf + km⟩ :: post1) = pre ++ ⟨f.nm, f.bs.take (f.sf + km), f.sf + km⟩ :: post1 := upd_mid (f := ⟨f.nm, f.bs, f.sf + km⟩) hb.ok.up
            simp only [eu2] at h4 g4
            refine ⟨⟨pre ++ [⟨f.nm, f.bs.take (f.sf + km), f.sf + km⟩], post1, ks'', setG Gk f.nm ((Gk f.nm).1, .slice (some ⟨r, 0, none⟩) (f.sf + km) cap), by simp [e1], by rw [E2.out, OS]; simp, by simpa using E3.out, by simpa using h4, ?_, K2⟩, ?_, hFb.cell1, hFb.frozen 0⟩
            · have := (gb.trans (Goes.drewN wb 1 _)).trans g4
              simpa using this
            · have := hFb.cell0
              simp only [EV.out] at this
              exact this
          have NX := Lib.hid NEXT
          have HB := Lib.hid hd2
          have GB := Lib.hid gd3
          have S2 := fun w => cut_to w r 0 f.bs.length cap (f.sf + km) (by rcases hR with ⟨e, _⟩ | ⟨r', cap', cur, fr, e, _, _, hl, _⟩; cases e; injection e with _ _ e; omega)
          have S3 := fun w => keep_cut w a (ks''.length + 1) kcap (by omega)
          simp only [Nat.add_sub_cancel] at S3
          have d0 := hF.cell0
          rw [EV.out] at d0
          have d1 := hF.cell1
          have z1 := hF.frozen 1
          have pk : ((f.sf + km : Nat) : Int) = (f.sf : Int) + (km : Int) := by omega
          rw [pk] at HB GB
          simp only [pk] at NX S2
          clear NEXT hd gd hd2 gd2 gd3 hdD gdD hF e1 q1 hR KC E2 E3 HF EV eu OS K2 pk a0
          have q5 : IntKind.i64.wrap ((f.bs.length : Int) - (f.sf : Int) + 1) = (f.bs.length : Int) - (f.sf : Int) + 1 := IntWalk.i64_in _ (by omega)
          have q6 : IntKind.i64.wrap ((f.sf : Int) + (km : Int)) = (f.sf : Int) + (km : Int) := IntWalk.i64_in _ (by omega)
          have q7 : ¬ (f.bs.length : Int) - (f.sf : Int) + 1 = 0 := by omega
          generalize (Gk f.nm).1 = gb at *
          generalize (if kcap = 1 then a else a.add 1) = a1 at *
          have q3 : ((f.bs.length : Int) - (f.sf : Int) == 0) = false := by simpa using q2
          have kl0 : (0 : Int) < ((ks''.length + 1 : Nat) : Int) := by omega
          go_wp2_with fail
          go_still_tail 14, (by kernel_rfl)
          go_wp2_with fail
          have hb : DiskAt (wq.setCell ⟨gb, 1, none⟩ (.int .i64 ((f.sf : Int) + (km : Int)))).drew p m Gk { D with off := false, L := pre ++ ⟨f.nm, f.bs, f.sf + km⟩ :: post1 } := HB.out
          have gb' : Goes w1 (wq.setCell ⟨gb, 1, none⟩ (.int .i64 ((f.sf : Int) + (km : Int)))).drew (zone p m G D.L) (zone p m Gk (pre ++ ⟨f.nm, f.bs, f.sf + km⟩ :: post1)) := GB.out
          generalize World.drew _ = wb at hb gb' ⊢
          obtain ⟨REL, e0, e6, e7⟩ := NX.out wb hb gb'
          have RH := Lib.hid REL
          clear REL hb gb' HB GB NX d0 d1 z1 kc0 kn
          generalize f.bs.length = len at *
          go_still_tail 12, (by kernel_rfl)
          go_wp2
          go_roundw
          case rel => exact ⟨k + 1, by omega, by go_num, RH.out⟩
          case measure => simp [intOf]; omega
    · obtain ⟨pre, post, ks', Gk, e1, e2, e3, hd, gd, kp⟩ := OA.is
      have el : pre.length + post.length = D.L.length := by
        have := congrArg List.length e3
        simpa using this
      have ep : post = [] := List.eq_nil_of_length_eq_zero (by omega)
      subst ep
      have eo : ∀ l, onL l [] = [] := fun l => by cases l <;> rw [onL]
      have PO : Post w wr p m G D { D with off := false, L := onL ks D.L } := by
        refine ⟨Gk, ?_, GD.out.trans ?_⟩
        · rw [e2, eo]
          exact hd
        · show Goes _ _ _ (zone p m Gk (onL ks D.L))
          rw [e2, eo]
          exact gd
      have PH := Lib.hid PO
      obtain ⟨kbase, kcap, rfl, _⟩ := kp
      have l1 : ¬ (k : Int) < (D.L.length : Int) := by omega
      clear OA hd gd e1 e2 e3 PO
      go_wp2
      exact bodyPost_end (v := .tuple #[]) (by simp [results, Tryz.results15, go_sem]) rfl ⟨rfl, PH.out⟩
end
end Go.Proofs.YtdmgobffhpgjlaaGreat.Pk
