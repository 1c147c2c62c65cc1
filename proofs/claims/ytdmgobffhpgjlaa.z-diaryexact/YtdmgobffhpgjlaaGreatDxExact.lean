/-
  The walk of DiaryExact.
-/
import Derived.Test.YtdmgobffhpgjlaaGreatDxB
import Derived.Test.YtdmgobffhpgjlaaGreatDgD
import Derived.Deep.Cut
import Derived.Deep.CutBlock
import Derived.Laws.Bits64
import Derived.Laws.Cover1
import Derived.Laws.Strings

namespace Go.Proofs.YtdmgobffhpgjlaaGreat.Sl.Dg
open Go.RowKit Go.PlainAid Go.Proofs.YtdmgobffhpgjlaaGreat.Cr
open Go.Proofs.YtdmgobffhpgjlaaGreat.Pk (Bs Fi Dk kl usedF Both HasD has_new both_new NmAt nmB nmV RefAt)
set_option linter.unusedVariables false
set_option maxRecDepth 20000
set_option linter.unusedSimpArgs false

def Ex (W : World) (p u : Nat) (w : World) : Prop := ∃ D, Both W w p u D D []
def Lp (W : World) (p u : Nat) (lv uv i : Value) (w : World) : Prop := ∃ k : Nat, k ≤ 60 ∧ i = .int .i64 k ∧ St W w p u lv uv k []
/-- behind the second switch: both logs are there -/
def Sk (W w : World) (p u q r : Nat) (k : Nat) (X : List (Nat × Obj)) : Prop := ∃ D L v xs, Bd D k ∧ Lb L k ∧ Pr W w p u D D q r L L v xs X
theorem ex_of {W w : World} {p u : Nat} {lv uv : Value} {k : Nat} {X : List (Nat × Obj)} (h : St W w p u lv uv k X) : Ex W p u w := by
  obtain ⟨D, Z, _, hB, _⟩ := h
  exact ⟨D, Both.less hB (by simp)⟩
theorem great_small {ls : List Sp} {s : ByteArray} {x : Sp} (h : greatA ls s x = false) : ls.length ≤ 20 ∧ s.size ≤ 500 := by
  unfold greatA at h
  simp only [Bool.or_eq_false_iff, decide_eq_false_iff_not] at h
  omega
theorem reads_small {D : Dk} {xs : List Sp} {n : Nat} (hu : usedF D.L ≤ 1000000) (h : Reads (nb (load D).1) xs n) : xs.length ≤ 1000000 := by
  obtain ⟨h1, h2⟩ := reads_le h
  rw [nb_len] at h1
  have h3 := load_used D
  omega
theorem names_at {w w' : World} {base : Nat} {o : Option Addr} {l : List Fi} (h : ∀ j f, l[j]? = some f → ∃ g, o = some ⟨g, 0, none⟩ ∧ base ≤ g ∧ g < w.heap.size ∧ w.cell? ⟨g, j, none⟩ = some (nmV f)) (e : w' = w.drew) {j : Nat} {f : Fi} (hf : l[j]? = some f) : ∃ g, o = some ⟨g, 0, none⟩ ∧ g < w'.heap.size ∧ w'.cell? ⟨g, j, none⟩ = some (.string (nmB f.nm)) := by
  subst e
  obtain ⟨g, a, _, c, d⟩ := h j f hf
  exact ⟨g, a, c, d⟩
theorem ufiles {W w : World} {p u : Nat} {D E : Dk} {X : List (Nat × Obj)} (h : Both W w p u D E X) {n : Nat} {f : Fi} (hn : E.L[n]? = some f) : ∃ g cap, w.cell? ⟨u, 0, none⟩ = some (.slice (some ⟨g, 0, none⟩) E.L.length cap) ∧ w.cell? ⟨g, n * 3, none⟩ = some (.string (nmB f.nm)) ∧ w.cell? ⟨g, n * 3 + 1, none⟩ = some (.string (nmB f.bs)) ∧ w.cell? ⟨g, n * 3 + 2, none⟩ = some (.int .i64 (f.sf : Int)) := by
  obtain ⟨m, G, v, a, mo, _, hr, _⟩ := h.is
  obtain ⟨g, cap, e, hc, _⟩ := hr.file hn
  have c0 := hr.cell 0
  exact ⟨g, cap, by rw [← e]; exact c0, hc 0 _ rfl, hc 1 _ rfl, hc 2 _ rfl⟩
set_option maxRecDepth 100000 in
set_option maxHeartbeats 64000000 in
theorem exact_main {v1 : Value} (room : Int) (ys : List Ac) {W : World} (hv : ActsAt W v1 ys) (hl : ys.length ≤ 9223372036854775807) :
    Calls Tryz.prog 3 #[.int .i64 room, v1] W fun e w' => e = .returned (.bool true) ∧ Below W.heap.size W w' := by
  have AW := awake_any W
  have ST := Lib.hid fun w (hb : Below W.heap.size W w) => has_new W hb room
  have SU := Lib.hid fun w p (h : HasD W w p (Dk.new room) []) => both_new W h.below room h
  obtain ⟨nz1, nz2⟩ := new_opens room
  have okn := Pk.Dk.Ok.new room
  have PO := Lib.hid fun w p u (h : Both W w p u (Dk.new room) (Dk.new room) []) => p_open_yes h (by simp [Dk.new]) nz1
  have RO := Lib.hid fun w p u q xs n (h : Both W w p u (load (Dk.new room)).2.2 (Dk.new room) [(q, dob p (lgR (Dk.new room) xs n))]) (rd : Reads (nb (load (Dk.new room)).1) xs n) (hq : W.heap.size ≤ q) => r_open_yes (X := []) h (fun e => by simp [Dk.new] at e) (by simp [Dk.new]) (by simp [Dk.new, usedF]) nz1 rd hq (by simp)
  have NZ := Lib.hid nz2
  have BN := Lib.hid (bd_new room)
  have LN := Lib.hid fun xs n (rd : Reads (nb (load (Dk.new room)).1) xs n) => lb_load (k := 0) (D := Dk.new room) (by simp [Dk.new, usedF]) rd (decide (n < (load (Dk.new room)).1.length))
  obtain ⟨tb, tc, rfl, hc⟩ := hv.is
  have CH := Lib.hid (fun k x (hs : ys[k]? = some x) => show ∃ a : Addr, tb = some a ∧ ∀ w, Below W.heap.size W w → Loads Tryz.prog w 41 (a.add (k * 44)) x.cells from by
    obtain ⟨a, e, ha, hcell⟩ := hc k x hs
    exact ⟨a, e, fun w hb => loads_act (hv.ok x (List.mem_of_getElem? hs)) fun i c hi => by rw [hb.cell (by rw [add_block, add_block]; exact ha)]; exact hcell i c hi⟩)
  have OK := Lib.hid hv.ok
  have LS := Lib.hid fun x (hx : x ∈ ys) w (hb : Below W.heap.size W w) => (hv.ls x hx).below hb
  have LS0 := Lib.hid hv.ls
  clear hv hc nz1 nz2 okn
  go_enter Tryz.func3, Tryz.ntmps3
  go_wp2_with fail
  refine AW.mono ?_
  rintro e w1 ⟨rfl, hb1⟩
  have ST1 := ST.out w1 hb1
  clear AW ST hb1
  go_wp2_with fail
  refine ST1.mono ?_
  rintro e w2 ⟨p, rfl, h2⟩
  have SU1 := SU.out w2 p h2
  clear ST1 SU h2
  go_wp2_with fail
  refine SU1.mono ?_
  rintro e w3 ⟨u, rfl, h3⟩
  have PO1 := PO.out w3 p u h3
  clear SU1 PO h3
  go_wp2_with fail
  refine PO1.mono ?_
  rintro e w4 ⟨q, g, cp, xs, n, rfl, rd, _, hB, hq, _⟩
  have RO1 := RO.out w4 p u q xs n hB rd hq
  have LB := LN.out xs n rd
  have hx0 : xs = [] := by have := rd; rw [NZ.out] at this; exact (reads_none this).1
  have HN0 := Lib.hid rd
  clear PO1 RO hB rd LN
  subst hx0
  simp only [List.length_nil] at RO1 LB ⊢
  go_wp2_with fail
  refine RO1.mono ?_
  rintro e w5 ⟨r, g2, cp2, rfl, hP, _⟩
  have C0 : St W w5 p u (.pointer (some ⟨q, 0, none⟩)) (.pointer (some ⟨r, 0, none⟩)) 0 [] := st_log BN.out LB hP
  clear RO1 hP LB BN HN0 NZ hq
  go_upto_block 0 with fail
  go_cut [] from 16 (fun w => Ex W p u w)
  case rest =>
    obtain ⟨D, hB⟩ := hcut
    clear C0 CH OK LS LS0
    as_aux_lemma =>
      have LI := Pk.both_list hB
      have cnt := hB.ok.cnt
      clear hB
      go_wp2_with fail
      refine LI.mono ?_
      rintro e w8 ⟨v8, rfl, ⟨o8, c8, rfl, NM⟩, h8, _⟩
      clear LI
      have NH := Lib.hid NM
      have H8 := Lib.hid h8.drew
      have PO := (Pk.both_ops h8.drew)
      obtain ⟨d2, _, ou, cu, d0⟩ := h8.drew.ucell
      clear NM h8
      generalize hdo : D.ops = dops at PO d2
      clear hdo
      obtain ⟨ln, hln⟩ : ∃ ln, ln = D.L.length := ⟨_, rfl⟩
      rw [← hln] at cnt d0 ⊢
      have HLN := Lib.hid hln
      clear hln
      go_upto_region 53 with fail
      refine wp_region_held (S := fun y => y = w8.drew) (by kernel_rfl) ?_
      change wpAnyH _ _ _ _ _ _ _ _ w8.drew
      obtain ⟨w8', hw8⟩ : ∃ z, z = w8.drew := ⟨_, rfl⟩
      have HW8 := Lib.hid hw8
      rw [← hw8] at PO d2 d0 H8 ⊢
      clear hw8
      refine held_take 0 (.slice o8 ln c8) rfl (by kernel_rfl) (by kernel_rfl) (by kernel_rfl) (fun _ _ _ h => h) (Or.inl ⟨by rfl, fun x j => by go_simp⟩) rfl (fun K hK => ?_)
      go_simp
      refine hK _ _ ?_
      clear hK K
      refine held_take 1 (.int .i64 (ln : Int)) rfl (by kernel_rfl) (by kernel_rfl) (by kernel_rfl) (fun _ _ _ h => h) (Or.inl ⟨by rfl, fun x j => by go_simp⟩) rfl (fun K hK => ?_)
      go_simp
      refine hK _ _ ?_
      clear hK K
      refine held_take 2 (.pointer (some ⟨u, 0, none⟩)) rfl (by kernel_rfl) (by kernel_rfl) (by kernel_rfl) (fun _ _ _ h => h) (Or.inl ⟨by rfl, fun x j => by go_simp⟩) rfl (fun K hK => ?_)
      go_simp
      refine hK _ _ ?_
      clear hK K
      refine held_take 3 (.pointer (some ⟨u, 0, none⟩)) rfl (by kernel_rfl) (by kernel_rfl) (by kernel_rfl) (fun _ _ _ h => h) (Or.inl ⟨by rfl, fun x j => by go_simp⟩) rfl (fun K hK => ?_)
      go_simp
      refine hK _ _ ?_
      clear hK K
      refine held_take 4 (.pointer (some ⟨u, 0, none⟩)) rfl (by kernel_rfl) (by kernel_rfl) (by kernel_rfl) (fun _ _ _ h => h) (Or.inl ⟨by rfl, fun x j => by go_simp⟩) rfl (fun K hK => ?_)
      go_simp
      refine hK _ _ ?_
      clear hK K
      refine held_take 5 (.slice ou ln cu) rfl (by kernel_rfl) (by kernel_rfl) (by kernel_rfl) (fun _ _ _ h => h) (Or.inl ⟨by rfl, fun x j => by subst j; go_simp⟩) rfl (fun K hK => ?_)
      go_simp
      refine hK _ _ ?_
      clear hK K
      refine held_take 6 (.int .i64 (ln : Int)) rfl (by kernel_rfl) (by kernel_rfl) (by kernel_rfl) (fun _ _ _ h => h) (Or.inl ⟨by rfl, fun x j => by go_simp⟩) rfl (fun K hK => ?_)
      go_simp
      refine hK _ _ ?_
      clear hK K
      refine held_take 7 (.bool false) rfl (by kernel_rfl) (by kernel_rfl) (by kernel_rfl) (fun _ _ _ h => h) (Or.inl ⟨by rfl, fun x j => by go_simp⟩) rfl (fun K hK => ?_)
      go_simp
      refine hK _ _ ?_
      clear hK K
      refine held_take 8 (.bool false) rfl (by kernel_rfl) (by kernel_rfl) (by kernel_rfl) (fun _ _ _ h => h) (Or.inl ⟨by rfl, fun x j => by go_simp⟩) rfl (fun K hK => ?_)
      go_simp
      refine hK _ _ ?_
      clear hK K
      refine held_take 9 (.pointer (some ⟨p, 0, none⟩)) rfl (by kernel_rfl) (by kernel_rfl) (by kernel_rfl) (fun _ _ _ h => h) (Or.inl ⟨by rfl, fun x j => by go_simp⟩) rfl (fun K hK => ?_)
      go_simp
      refine hK _ _ ?_
      clear hK K
      refine held_take 11 (.pointer (some ⟨u, 0, none⟩)) rfl (by kernel_rfl) (by kernel_rfl) (by kernel_rfl) (fun _ _ _ h => h) (Or.inl ⟨by rfl, fun x j => by go_simp⟩) rfl (fun K hK => ?_)
      go_simp
      refine hK _ _ ?_
      clear hK K
      refine held_take 12 (.pointer (some ⟨u, 0, none⟩)) rfl (by kernel_rfl) (by kernel_rfl) (by kernel_rfl) (fun _ _ _ h => h) (Or.inl ⟨by rfl, fun x j => by go_simp⟩) rfl (fun K hK => ?_)
      go_simp
      refine hK _ _ ?_
      clear hK K
      refine held_take 13 (.pointer (some ⟨u, 2, none⟩)) rfl (by kernel_rfl) (by kernel_rfl) (by kernel_rfl) (fun _ _ _ h => h) (Or.inl ⟨by rfl, fun x j => by go_simp⟩) rfl (fun K hK => ?_)
      go_simp
      refine hK _ _ ?_
      clear hK K
      refine held_take 14 (.int .i64 dops) rfl (by kernel_rfl) (by kernel_rfl) (by kernel_rfl) (fun _ _ _ h => h) (Or.inl ⟨by rfl, fun x j => by subst j; go_simp⟩) rfl (fun K hK => ?_)
      go_simp
      refine hK _ _ ?_
      clear hK K
      refine held_one 10 (by kernel_rfl) (fun K hK => wpOp_in rfl rfl ?_)
      go_simp
      refine (PO).mono ?_
      rintro e w' ⟨rfl, rfl⟩
      refine hK _ _ rfl ?_
      clear hK K
      refine held_take 15 (.bool false) rfl (by kernel_rfl) (by kernel_rfl) (by kernel_rfl) (fun _ _ _ h => h) (Or.inl ⟨by rfl, fun x j => by go_simp⟩) rfl (fun K hK => ?_)
      go_simp
      refine hK _ _ ?_
      clear hK K
      refine held_take 16 (.bool false) rfl (by kernel_rfl) (by kernel_rfl) (by kernel_rfl) (fun _ _ _ h => h) (Or.inl ⟨by rfl, fun x j => by go_simp⟩) rfl (fun K hK => ?_)
      go_simp
      refine hK _ _ ?_
      clear hK K
      refine wpAnyH_done (by kernel_rfl) ?_ _
      clear PO d2 d0
      have NH2 := Lib.hid fun j f (hf : D.L[j]? = some f) => names_at NH.out HW8.out hf
      clear NH HW8
      go_wp2
      go_loopw [15] (fun i wr => ∃ m : Nat, m ≤ ln ∧ i = .int .i64 m ∧ Both W wr p u D D [] ∧ Below w8'.heap.size w8' wr) (fun i _ => ln - (intOf i).toNat)
      case atStart => exact ⟨0, Nat.zero_le _, rfl, H8.out, Below.refl _ _⟩
      case round =>
        obtain ⟨m, hm, rfl, hw, bw⟩ := hrel
        clear H8
        by_cases hm1 : m < ln
        · have l3 : (m : Int) < (ln : Int) := by omega
          obtain ⟨f, hf⟩ : ∃ f, D.L[m]? = some f := ⟨D.L[m]'(by have := HLN.out; omega), List.getElem?_eq_getElem _⟩
          obtain ⟨gu, cu2, d0, da, db, dc⟩ := ufiles hw.drew hf
          rw [← HLN.out] at d0
          obtain ⟨gk, rfl, gs, gc⟩ := NH2.out m f hf
          have dk : wr.drew.cell? ⟨gk, m, none⟩ = some (.string (Pk.nmB f.nm)) := by rw [bw.drew.cell (by simpa using gs)]; exact gc
          have FM := List.mem_of_getElem? hf
          have PB := Pk.both_bytes hw.drew FM
          have PS := Pk.both_safe hw.drew FM
          have NX := Lib.hid (And.intro hw.drew bw.drew)
          clear hf gc gs hw bw FM
          generalize Pk.nmB f.nm = sn at PB PS da dk
          generalize Pk.nmB f.bs = sb at PB db
          generalize f.sf = sf at PS dc
          go_upto_region 58 with fail
          refine wp_region_held (S := fun y => y = wr.drew) (by kernel_rfl) ?_
          change wpAnyH _ _ _ _ _ _ _ _ wr.drew
          generalize wr.drew = wd at *
          refine held_take 0 (.slice (some ⟨gk, 0, none⟩) ln c8) rfl (by kernel_rfl) (by kernel_rfl) (by kernel_rfl) (fun _ _ _ h => h) (Or.inl ⟨by rfl, fun x j => by go_simp⟩) rfl (fun K hK => ?_)
          go_simp
          refine hK _ _ ?_
          clear hK K
          refine held_take 1 (.int .i64 (m : Int)) rfl (by kernel_rfl) (by kernel_rfl) (by kernel_rfl) (fun _ _ _ h => h) (Or.inl ⟨by rfl, fun x j => by go_simp⟩) rfl (fun K hK => ?_)
          go_simp
          refine hK _ _ ?_
          clear hK K
          refine held_take 2 (.pointer (some ⟨gk, m, none⟩)) rfl (by kernel_rfl) (by kernel_rfl) (by kernel_rfl) (fun _ _ _ h => h) (Or.inl ⟨by rfl, fun x j => by go_simp⟩) rfl (fun K hK => ?_)
          go_simp
          refine hK _ _ ?_
          clear hK K
          refine held_take 3 (.string sn) rfl (by kernel_rfl) (by kernel_rfl) (by kernel_rfl) (fun _ _ _ h => h) (Or.inl ⟨by rfl, fun x j => by subst j; go_simp⟩) rfl (fun K hK => ?_)
          go_simp
          refine hK _ _ ?_
          clear hK K
          refine held_take 4 (.pointer (some ⟨u, 0, none⟩)) rfl (by kernel_rfl) (by kernel_rfl) (by kernel_rfl) (fun _ _ _ h => h) (Or.inl ⟨by rfl, fun x j => by go_simp⟩) rfl (fun K hK => ?_)
          go_simp
          refine hK _ _ ?_
          clear hK K
          refine held_take 5 (.pointer (some ⟨u, 0, none⟩)) rfl (by kernel_rfl) (by kernel_rfl) (by kernel_rfl) (fun _ _ _ h => h) (Or.inl ⟨by rfl, fun x j => by go_simp⟩) rfl (fun K hK => ?_)
          go_simp
          refine hK _ _ ?_
          clear hK K
          refine held_take 6 (.pointer (some ⟨u, 0, none⟩)) rfl (by kernel_rfl) (by kernel_rfl) (by kernel_rfl) (fun _ _ _ h => h) (Or.inl ⟨by rfl, fun x j => by go_simp⟩) rfl (fun K hK => ?_)
          go_simp
          refine hK _ _ ?_
          clear hK K
          refine held_take 7 (.slice (some ⟨gu, 0, none⟩) ln cu2) rfl (by kernel_rfl) (by kernel_rfl) (by kernel_rfl) (fun _ _ _ h => h) (Or.inl ⟨by rfl, fun x j => by subst j; go_simp⟩) rfl (fun K hK => ?_)
          go_simp
          refine hK _ _ ?_
          clear hK K
          refine held_take 8 (.int .i64 (m : Int)) rfl (by kernel_rfl) (by kernel_rfl) (by kernel_rfl) (fun _ _ _ h => h) (Or.inl ⟨by rfl, fun x j => by go_simp⟩) rfl (fun K hK => ?_)
          go_simp
          refine hK _ _ ?_
          clear hK K
          refine held_take 9 (.pointer (some ⟨gu, m * 3, none⟩)) rfl (by kernel_rfl) (by kernel_rfl) (by kernel_rfl) (fun _ _ _ h => h) (Or.inl ⟨by rfl, fun x j => by go_simp⟩) rfl (fun K hK => ?_)
          go_simp
          refine hK _ _ ?_
          clear hK K
          refine held_take 10 (.pointer (some ⟨gu, m * 3, none⟩)) rfl (by kernel_rfl) (by kernel_rfl) (by kernel_rfl) (fun _ _ _ h => h) (Or.inl ⟨by rfl, fun x j => by go_simp⟩) rfl (fun K hK => ?_)
          go_simp
          refine hK _ _ ?_
          clear hK K
          refine held_take 11 (.string sn) rfl (by kernel_rfl) (by kernel_rfl) (by kernel_rfl) (fun _ _ _ h => h) (Or.inl ⟨by rfl, fun x j => by subst j; go_simp⟩) rfl (fun K hK => ?_)
          go_simp
          refine hK _ _ ?_
          clear hK K
          refine held_take 12 (.bool false) rfl (by kernel_rfl) (by kernel_rfl) (by kernel_rfl) (fun _ _ _ h => h) (Or.inl ⟨by rfl, fun x j => by go_simp⟩) rfl (fun K hK => ?_)
          go_simp
          refine hK _ _ ?_
          clear hK K
          refine held_take 13 (.bool false) rfl (by kernel_rfl) (by kernel_rfl) (by kernel_rfl) (fun _ _ _ h => h) (Or.inl ⟨by rfl, fun x j => by go_simp⟩) rfl (fun K hK => ?_)
          go_simp
          refine hK _ _ ?_
          clear hK K
          refine held_take 14 (.pointer (some ⟨p, 0, none⟩)) rfl (by kernel_rfl) (by kernel_rfl) (by kernel_rfl) (fun _ _ _ h => h) (Or.inl ⟨by rfl, fun x j => by go_simp⟩) rfl (fun K hK => ?_)
          go_simp
          refine hK _ _ ?_
          clear hK K
          refine held_take 15 (.slice (some ⟨gk, 0, none⟩) ln c8) rfl (by kernel_rfl) (by kernel_rfl) (by kernel_rfl) (fun _ _ _ h => h) (Or.inl ⟨by rfl, fun x j => by go_simp⟩) rfl (fun K hK => ?_)
          go_simp
          refine hK _ _ ?_
          clear hK K
          refine held_take 16 (.int .i64 (m : Int)) rfl (by kernel_rfl) (by kernel_rfl) (by kernel_rfl) (fun _ _ _ h => h) (Or.inl ⟨by rfl, fun x j => by go_simp⟩) rfl (fun K hK => ?_)
          go_simp
          refine hK _ _ ?_
          clear hK K
          refine held_take 17 (.pointer (some ⟨gk, m, none⟩)) rfl (by kernel_rfl) (by kernel_rfl) (by kernel_rfl) (fun _ _ _ h => h) (Or.inl ⟨by rfl, fun x j => by go_simp⟩) rfl (fun K hK => ?_)
          go_simp
          refine hK _ _ ?_
          clear hK K
          refine held_take 18 (.string sn) rfl (by kernel_rfl) (by kernel_rfl) (by kernel_rfl) (fun _ _ _ h => h) (Or.inl ⟨by rfl, fun x j => by subst j; go_simp⟩) rfl (fun K hK => ?_)
          go_simp
          refine hK _ _ ?_
          clear hK K
          refine held_take 20 (.pointer (some ⟨u, 0, none⟩)) rfl (by kernel_rfl) (by kernel_rfl) (by kernel_rfl) (fun _ _ _ h => h) (Or.inl ⟨by rfl, fun x j => by go_simp⟩) rfl (fun K hK => ?_)
          go_simp
          refine hK _ _ ?_
          clear hK K
          refine held_take 21 (.pointer (some ⟨u, 0, none⟩)) rfl (by kernel_rfl) (by kernel_rfl) (by kernel_rfl) (fun _ _ _ h => h) (Or.inl ⟨by rfl, fun x j => by go_simp⟩) rfl (fun K hK => ?_)
          go_simp
          refine hK _ _ ?_
          clear hK K
          refine held_take 22 (.pointer (some ⟨u, 0, none⟩)) rfl (by kernel_rfl) (by kernel_rfl) (by kernel_rfl) (fun _ _ _ h => h) (Or.inl ⟨by rfl, fun x j => by go_simp⟩) rfl (fun K hK => ?_)
          go_simp
          refine hK _ _ ?_
          clear hK K
          refine held_take 23 (.slice (some ⟨gu, 0, none⟩) ln cu2) rfl (by kernel_rfl) (by kernel_rfl) (by kernel_rfl) (fun _ _ _ h => h) (Or.inl ⟨by rfl, fun x j => by subst j; go_simp⟩) rfl (fun K hK => ?_)
          go_simp
          refine hK _ _ ?_
          clear hK K
          refine held_take 24 (.int .i64 (m : Int)) rfl (by kernel_rfl) (by kernel_rfl) (by kernel_rfl) (fun _ _ _ h => h) (Or.inl ⟨by rfl, fun x j => by go_simp⟩) rfl (fun K hK => ?_)
          go_simp
          refine hK _ _ ?_
          clear hK K
          refine held_take 25 (.pointer (some ⟨gu, m * 3, none⟩)) rfl (by kernel_rfl) (by kernel_rfl) (by kernel_rfl) (fun _ _ _ h => h) (Or.inl ⟨by rfl, fun x j => by go_simp⟩) rfl (fun K hK => ?_)
          go_simp
          refine hK _ _ ?_
          clear hK K
          refine held_take 26 (.pointer (some ⟨gu, m * 3 + 1, none⟩)) rfl (by kernel_rfl) (by kernel_rfl) (by kernel_rfl) (fun _ _ _ h => h) (Or.inl ⟨by rfl, fun x j => by go_simp⟩) rfl (fun K hK => ?_)
          go_simp
          refine hK _ _ ?_
          clear hK K
          refine held_take 27 (.string sb) rfl (by kernel_rfl) (by kernel_rfl) (by kernel_rfl) (fun _ _ _ h => h) (Or.inl ⟨by rfl, fun x j => by subst j; go_simp⟩) rfl (fun K hK => ?_)
          go_simp
          refine hK _ _ ?_
          clear hK K
          refine held_one 19 (by kernel_rfl) (fun K hK => wpOp_in rfl rfl ?_)
          go_simp
          refine (PB).mono ?_
          rintro e w' ⟨rfl, rfl⟩
          refine hK _ _ rfl ?_
          clear hK K
          refine held_take 28 (.bool false) rfl (by kernel_rfl) (by kernel_rfl) (by kernel_rfl) (fun _ _ _ h => h) (Or.inl ⟨by rfl, fun x j => by go_simp⟩) rfl (fun K hK => ?_)
          go_simp
          refine hK _ _ ?_
          clear hK K
          refine held_take 29 (.bool false) rfl (by kernel_rfl) (by kernel_rfl) (by kernel_rfl) (fun _ _ _ h => h) (Or.inl ⟨by rfl, fun x j => by go_simp⟩) rfl (fun K hK => ?_)
          go_simp
          refine hK _ _ ?_
          clear hK K
          refine held_take 30 (.bool false) rfl (by kernel_rfl) (by kernel_rfl) (by kernel_rfl) (fun _ _ _ h => h) (Or.inl ⟨by rfl, fun x j => by go_simp⟩) rfl (fun K hK => ?_)
          go_simp
          refine hK _ _ ?_
          clear hK K
          refine held_take 31 (.pointer (some ⟨p, 0, none⟩)) rfl (by kernel_rfl) (by kernel_rfl) (by kernel_rfl) (fun _ _ _ h => h) (Or.inl ⟨by rfl, fun x j => by go_simp⟩) rfl (fun K hK => ?_)
          go_simp
          refine hK _ _ ?_
          clear hK K
          refine held_take 32 (.slice (some ⟨gk, 0, none⟩) ln c8) rfl (by kernel_rfl) (by kernel_rfl) (by kernel_rfl) (fun _ _ _ h => h) (Or.inl ⟨by rfl, fun x j => by go_simp⟩) rfl (fun K hK => ?_)
          go_simp
          refine hK _ _ ?_
          clear hK K
          refine held_take 33 (.int .i64 (m : Int)) rfl (by kernel_rfl) (by kernel_rfl) (by kernel_rfl) (fun _ _ _ h => h) (Or.inl ⟨by rfl, fun x j => by go_simp⟩) rfl (fun K hK => ?_)
          go_simp
          refine hK _ _ ?_
          clear hK K
          refine held_take 34 (.pointer (some ⟨gk, m, none⟩)) rfl (by kernel_rfl) (by kernel_rfl) (by kernel_rfl) (fun _ _ _ h => h) (Or.inl ⟨by rfl, fun x j => by go_simp⟩) rfl (fun K hK => ?_)
          go_simp
          refine hK _ _ ?_
          clear hK K
          refine held_take 35 (.string sn) rfl (by kernel_rfl) (by kernel_rfl) (by kernel_rfl) (fun _ _ _ h => h) (Or.inl ⟨by rfl, fun x j => by subst j; go_simp⟩) rfl (fun K hK => ?_)
          go_simp
          refine hK _ _ ?_
          clear hK K
          refine held_take 37 (.pointer (some ⟨u, 0, none⟩)) rfl (by kernel_rfl) (by kernel_rfl) (by kernel_rfl) (fun _ _ _ h => h) (Or.inl ⟨by rfl, fun x j => by go_simp⟩) rfl (fun K hK => ?_)
          go_simp
          refine hK _ _ ?_
          clear hK K
          refine held_take 38 (.pointer (some ⟨u, 0, none⟩)) rfl (by kernel_rfl) (by kernel_rfl) (by kernel_rfl) (fun _ _ _ h => h) (Or.inl ⟨by rfl, fun x j => by go_simp⟩) rfl (fun K hK => ?_)
          go_simp
          refine hK _ _ ?_
          clear hK K
          refine held_take 39 (.pointer (some ⟨u, 0, none⟩)) rfl (by kernel_rfl) (by kernel_rfl) (by kernel_rfl) (fun _ _ _ h => h) (Or.inl ⟨by rfl, fun x j => by go_simp⟩) rfl (fun K hK => ?_)
          go_simp
          refine hK _ _ ?_
          clear hK K
          refine held_take 40 (.slice (some ⟨gu, 0, none⟩) ln cu2) rfl (by kernel_rfl) (by kernel_rfl) (by kernel_rfl) (fun _ _ _ h => h) (Or.inl ⟨by rfl, fun x j => by subst j; go_simp⟩) rfl (fun K hK => ?_)
          go_simp
          refine hK _ _ ?_
          clear hK K
          refine held_take 41 (.int .i64 (m : Int)) rfl (by kernel_rfl) (by kernel_rfl) (by kernel_rfl) (fun _ _ _ h => h) (Or.inl ⟨by rfl, fun x j => by go_simp⟩) rfl (fun K hK => ?_)
          go_simp
          refine hK _ _ ?_
          clear hK K
          refine held_take 42 (.pointer (some ⟨gu, m * 3, none⟩)) rfl (by kernel_rfl) (by kernel_rfl) (by kernel_rfl) (fun _ _ _ h => h) (Or.inl ⟨by rfl, fun x j => by go_simp⟩) rfl (fun K hK => ?_)
          go_simp
          refine hK _ _ ?_
          clear hK K
          refine held_take 43 (.pointer (some ⟨gu, m * 3 + 2, none⟩)) rfl (by kernel_rfl) (by kernel_rfl) (by kernel_rfl) (fun _ _ _ h => h) (Or.inl ⟨by rfl, fun x j => by go_simp⟩) rfl (fun K hK => ?_)
          go_simp
          refine hK _ _ ?_
          clear hK K
          refine held_take 44 (.int .i64 (sf : Int)) rfl (by kernel_rfl) (by kernel_rfl) (by kernel_rfl) (fun _ _ _ h => h) (Or.inl ⟨by rfl, fun x j => by subst j; go_simp⟩) rfl (fun K hK => ?_)
          go_simp
          refine hK _ _ ?_
          clear hK K
          refine held_one 36 (by kernel_rfl) (fun K hK => wpOp_in rfl rfl ?_)
          go_simp
          refine (PS).mono ?_
          rintro e w' ⟨rfl, rfl⟩
          refine hK _ _ rfl ?_
          clear hK K
          refine held_take 45 (.bool false) rfl (by kernel_rfl) (by kernel_rfl) (by kernel_rfl) (fun _ _ _ h => h) (Or.inl ⟨by rfl, fun x j => by go_simp⟩) rfl (fun K hK => ?_)
          go_simp
          refine hK _ _ ?_
          clear hK K
          refine held_take 46 (.bool false) rfl (by kernel_rfl) (by kernel_rfl) (by kernel_rfl) (fun _ _ _ h => h) (Or.inl ⟨by rfl, fun x j => by go_simp⟩) rfl (fun K hK => ?_)
          go_simp
          refine hK _ _ ?_
          clear hK K
          refine wpAnyH_done (by kernel_rfl) ?_ _
          clear PB PS d0 da db dc dk
          go_wp2
          go_roundw
          case rel => exact ⟨m + 1, by omega, by go_num, NX.out.1, NX.out.2⟩
          case measure => simp [intOf]; omega
        · have l3 : ¬ (m : Int) < (ln : Int) := by omega
          have bel := hw.below
          clear hw bw
          go_wp2
          go_ret
          exact ⟨rfl, bel⟩
  case first =>
  go_wp2
  go_loopw [7, 10, 12] (fun lv uv i wr => Lp W p u lv uv i wr) (fun _ _ i _ => 60 - (intOf i).toNat)
  case atStart => exact ⟨0, by omega, rfl, C0⟩
  case round =>
    obtain ⟨k, hk, rfl, SK⟩ := hrel
    clear C0
    by_cases hlt : k < ys.length
    · have l1 : (k : Int) < (ys.length : Int) := by omega
      by_cases h60 : k < 60
      · have l2 : (k : Int) < 60 := by omega
        obtain ⟨y, hs⟩ : ∃ y, ys[k]? = some y := ⟨ys[k], List.getElem?_eq_getElem hlt⟩
        obtain ⟨a, rfl, ca⟩ := CH.out k y hs
        have LA := ca wr SK.below
        have hy := OK.out y (List.mem_of_getElem? hs)
        have LSY := Lib.hid (LS.out y (List.mem_of_getElem? hs))
        have LSW := Lib.hid (LS0.out y (List.mem_of_getElem? hs))
        obtain ⟨Y, S, hY, bY, _⟩ := act_keep wr hy
        obtain ⟨D, Z0, bd, hB0, lg0⟩ := SK
        obtain ⟨Z, lg, hB⟩ := lg0.more bY (Nat.le_refl _) hB0 hY.heap
        clear ca hs bY hB0 lg0 hY
        go_upto_region 13 with (first | refine wpl_load LA rfl rfl rfl ?_ | refine wpl_store S rfl rfl rfl rfl rfl ?_)
        clear S LA
        generalize wr.heap.size = B at *
        have hbx : Y.heap[B]? = some (box y) := hB.at (lg.sub _ (List.mem_cons_self ..))
        have LB := box_loads hbx hy
        have GY := great_any (LSY.out Y hB.below) hy.l y.kd y.pos y.n y.m y.s hy.s y.x hy.x
        clear hbx
        go_wp2_with (first | refine wpl_load LB rfl rfl rfl ?_)
        refine GY.mono ?_
        rintro e w3 ⟨rfl, hb3⟩
        clear GY LB
        replace hB := hB.kept hb3
        replace lg := lg.kp (Kp.of_below hb3)
        clear hb3
        cases hgr : greatA y.ls y.s y.x with
        | true =>
          as_aux_lemma =>
            have bel3 := hB.below
            clear hB lg
            go_wp2
            go_ret
            exact ⟨rfl, bel3⟩
        | false =>
          obtain ⟨z1, z2⟩ := great_small hgr
          clear hgr
          have hbx : w3.heap[B]? = some (box y) := hB.at (lg.sub _ (List.mem_cons_self ..))
          obtain ⟨b0, _⟩ := box_cell hbx hy
          clear hbx
          go_upto_block 2 with (fail)
          clear b0
          go_cut [7, 10] from 48 to 242 (fun lv uv w => Sm W w p u lv uv k [(B, box y)])
          case rest =>
            clear hB lg bd
            as_aux_lemma =>
              obtain ⟨D, bm, ⟨rfl, rfl, hB⟩ | ⟨q, r, L, v, xs, rfl, rfl, lb, hP⟩⟩ := hcut
              · have NX : St W wc p u (.pointer none) (.pointer none) (k + 1) [] := st_nil bm.next (Both.less hB (by simp))
                clear hB bm
                go_wp2
                go_roundw
                case rel => exact ⟨k + 1, by omega, by go_num, NX⟩
                case measure => simp [intOf]; omega
              · have hbx : wc.heap[B]? = some (box y) := hP.box (List.mem_cons_self ..)
                obtain ⟨b0, _⟩ := box_cell hbx hy
                clear hbx
                go_upto_block 3 with fail
                clear b0
                go_cut [] from 48 to 242 (fun w => Sk W w p u q r (k + 1) [(B, box y)])
                case rest =>
                  clear hP lb bm
                  as_aux_lemma =>
                    obtain ⟨D, L, v, xs, bd, lb, hP⟩ := hcut
                    have nlen := hP.row.n
                    obtain ⟨g, cp, rfl⟩ := hP.row.form
                    have NX : St W _ p u (.pointer (some ⟨q, 0, none⟩)) (.pointer (some ⟨r, 0, none⟩)) (k + 1) [] := st_log bd lb (hP.less (by simp)).drew
                    have PL := pr_len hP.drew
                    rw [nlen] at PL
                    have PB := pr_bytes hP.drew
                    have PS := pr_sure hP.drew
                    have PK := pr_sick hP.drew
                    have d1 : wc.drew.cell? ⟨r, 1, none⟩ = some (.slice g xs.length cp) := hP.drew.at.cell 1
                    have d2 : wc.drew.cell? ⟨r, 2, none⟩ = some (.int .i64 L.s) := hP.drew.at.cell 2
                    have d3 : wc.drew.cell? ⟨r, 3, none⟩ = some (.int .i64 L.b) := hP.drew.at.cell 3
                    have d4 : wc.drew.cell? ⟨r, 4, none⟩ = some (.bool L.k) := hP.drew.at.cell 4
                    clear hP nlen bd lb
                    generalize L.s = ls at PS d2
                    generalize L.b = lb at PB d3
                    generalize L.k = lk at PK d4
                    generalize xs.length = n at PL d1
                    go_upto_region 50 with fail
                    refine wp_region_held (S := fun y => y = wc.drew) (by kernel_rfl) ?_
                    change wpAnyH _ _ _ _ _ _ _ _ wc.drew
                    generalize wc.drew = wd at *
                    refine held_take 0 (.pointer (some ⟨q, 0, none⟩)) rfl (by kernel_rfl) (by kernel_rfl) (by kernel_rfl) (fun _ _ _ h => h) (Or.inl ⟨by rfl, fun x j => by go_simp⟩) rfl (fun K hK => ?_)
                    go_simp
                    refine hK _ _ ?_
                    clear hK K
                    refine held_take 2 (.pointer (some ⟨r, 0, none⟩)) rfl (by kernel_rfl) (by kernel_rfl) (by kernel_rfl) (fun _ _ _ h => h) (Or.inl ⟨by rfl, fun x j => by go_simp⟩) rfl (fun K hK => ?_)
                    go_simp
                    refine hK _ _ ?_
                    clear hK K
                    refine held_take 3 (.pointer (some ⟨r, 0, none⟩)) rfl (by kernel_rfl) (by kernel_rfl) (by kernel_rfl) (fun _ _ _ h => h) (Or.inl ⟨by rfl, fun x j => by go_simp⟩) rfl (fun K hK => ?_)
                    go_simp
                    refine hK _ _ ?_
                    clear hK K
                    refine held_take 4 (.pointer (some ⟨r, 1, none⟩)) rfl (by kernel_rfl) (by kernel_rfl) (by kernel_rfl) (fun _ _ _ h => h) (Or.inl ⟨by rfl, fun x j => by go_simp⟩) rfl (fun K hK => ?_)
                    go_simp
                    refine hK _ _ ?_
                    clear hK K
                    refine held_take 5 (.slice g n cp) rfl (by kernel_rfl) (by kernel_rfl) (by kernel_rfl) (fun _ _ _ h => h) (Or.inl ⟨by rfl, fun x j => by subst j; go_simp⟩) rfl (fun K hK => ?_)
                    go_simp
                    refine hK _ _ ?_
                    clear hK K
                    refine held_take 6 (.int .i64 (n : Int)) rfl (by kernel_rfl) (by kernel_rfl) (by kernel_rfl) (fun _ _ _ h => h) (Or.inl ⟨by rfl, fun x j => by go_simp⟩) rfl (fun K hK => ?_)
                    go_simp
                    refine hK _ _ ?_
                    clear hK K
                    refine held_one 1 (by kernel_rfl) (fun K hK => wpOp_in rfl rfl ?_)
                    go_simp
                    refine (PL).mono ?_
                    rintro e w' ⟨rfl, rfl⟩
                    refine hK _ _ rfl ?_
                    clear hK K
                    refine held_take 7 (.bool false) rfl (by kernel_rfl) (by kernel_rfl) (by kernel_rfl) (fun _ _ _ h => h) (Or.inl ⟨by rfl, fun x j => by go_simp⟩) rfl (fun K hK => ?_)
                    go_simp
                    refine hK _ _ ?_
                    clear hK K
                    refine held_take 8 (.bool false) rfl (by kernel_rfl) (by kernel_rfl) (by kernel_rfl) (fun _ _ _ h => h) (Or.inl ⟨by rfl, fun x j => by go_simp⟩) rfl (fun K hK => ?_)
                    go_simp
                    refine hK _ _ ?_
                    clear hK K
                    refine held_take 9 (.pointer (some ⟨q, 0, none⟩)) rfl (by kernel_rfl) (by kernel_rfl) (by kernel_rfl) (fun _ _ _ h => h) (Or.inl ⟨by rfl, fun x j => by go_simp⟩) rfl (fun K hK => ?_)
                    go_simp
                    refine hK _ _ ?_
                    clear hK K
                    refine held_take 11 (.pointer (some ⟨r, 0, none⟩)) rfl (by kernel_rfl) (by kernel_rfl) (by kernel_rfl) (fun _ _ _ h => h) (Or.inl ⟨by rfl, fun x j => by go_simp⟩) rfl (fun K hK => ?_)
                    go_simp
                    refine hK _ _ ?_
                    clear hK K
                    refine held_take 12 (.pointer (some ⟨r, 0, none⟩)) rfl (by kernel_rfl) (by kernel_rfl) (by kernel_rfl) (fun _ _ _ h => h) (Or.inl ⟨by rfl, fun x j => by go_simp⟩) rfl (fun K hK => ?_)
                    go_simp
                    refine hK _ _ ?_
                    clear hK K
                    refine held_take 13 (.pointer (some ⟨r, 2, none⟩)) rfl (by kernel_rfl) (by kernel_rfl) (by kernel_rfl) (fun _ _ _ h => h) (Or.inl ⟨by rfl, fun x j => by go_simp⟩) rfl (fun K hK => ?_)
                    go_simp
                    refine hK _ _ ?_
                    clear hK K
                    refine held_take 14 (.int .i64 ls) rfl (by kernel_rfl) (by kernel_rfl) (by kernel_rfl) (fun _ _ _ h => h) (Or.inl ⟨by rfl, fun x j => by subst j; go_simp⟩) rfl (fun K hK => ?_)
                    go_simp
                    refine hK _ _ ?_
                    clear hK K
                    refine held_one 10 (by kernel_rfl) (fun K hK => wpOp_in rfl rfl ?_)
                    go_simp
                    refine (PS).mono ?_
                    rintro e w' ⟨rfl, rfl⟩
                    refine hK _ _ rfl ?_
                    clear hK K
                    refine held_take 15 (.bool false) rfl (by kernel_rfl) (by kernel_rfl) (by kernel_rfl) (fun _ _ _ h => h) (Or.inl ⟨by rfl, fun x j => by go_simp⟩) rfl (fun K hK => ?_)
                    go_simp
                    refine hK _ _ ?_
                    clear hK K
                    refine held_take 16 (.bool false) rfl (by kernel_rfl) (by kernel_rfl) (by kernel_rfl) (fun _ _ _ h => h) (Or.inl ⟨by rfl, fun x j => by go_simp⟩) rfl (fun K hK => ?_)
                    go_simp
                    refine hK _ _ ?_
                    clear hK K
                    refine held_take 17 (.bool false) rfl (by kernel_rfl) (by kernel_rfl) (by kernel_rfl) (fun _ _ _ h => h) (Or.inl ⟨by rfl, fun x j => by go_simp⟩) rfl (fun K hK => ?_)
                    go_simp
                    refine hK _ _ ?_
                    clear hK K
                    refine held_take 18 (.pointer (some ⟨q, 0, none⟩)) rfl (by kernel_rfl) (by kernel_rfl) (by kernel_rfl) (fun _ _ _ h => h) (Or.inl ⟨by rfl, fun x j => by go_simp⟩) rfl (fun K hK => ?_)
                    go_simp
                    refine hK _ _ ?_
                    clear hK K
                    refine held_take 20 (.pointer (some ⟨r, 0, none⟩)) rfl (by kernel_rfl) (by kernel_rfl) (by kernel_rfl) (fun _ _ _ h => h) (Or.inl ⟨by rfl, fun x j => by go_simp⟩) rfl (fun K hK => ?_)
                    go_simp
                    refine hK _ _ ?_
                    clear hK K
                    refine held_take 21 (.pointer (some ⟨r, 0, none⟩)) rfl (by kernel_rfl) (by kernel_rfl) (by kernel_rfl) (fun _ _ _ h => h) (Or.inl ⟨by rfl, fun x j => by go_simp⟩) rfl (fun K hK => ?_)
                    go_simp
                    refine hK _ _ ?_
                    clear hK K
                    refine held_take 22 (.pointer (some ⟨r, 3, none⟩)) rfl (by kernel_rfl) (by kernel_rfl) (by kernel_rfl) (fun _ _ _ h => h) (Or.inl ⟨by rfl, fun x j => by go_simp⟩) rfl (fun K hK => ?_)
                    go_simp
                    refine hK _ _ ?_
                    clear hK K
                    refine held_take 23 (.int .i64 lb) rfl (by kernel_rfl) (by kernel_rfl) (by kernel_rfl) (fun _ _ _ h => h) (Or.inl ⟨by rfl, fun x j => by subst j; go_simp⟩) rfl (fun K hK => ?_)
                    go_simp
                    refine hK _ _ ?_
                    clear hK K
                    refine held_one 19 (by kernel_rfl) (fun K hK => wpOp_in rfl rfl ?_)
                    go_simp
                    refine (PB).mono ?_
                    rintro e w' ⟨rfl, rfl⟩
                    refine hK _ _ rfl ?_
                    clear hK K
                    refine held_take 24 (.bool false) rfl (by kernel_rfl) (by kernel_rfl) (by kernel_rfl) (fun _ _ _ h => h) (Or.inl ⟨by rfl, fun x j => by go_simp⟩) rfl (fun K hK => ?_)
                    go_simp
                    refine hK _ _ ?_
                    clear hK K
                    refine held_take 25 (.bool false) rfl (by kernel_rfl) (by kernel_rfl) (by kernel_rfl) (fun _ _ _ h => h) (Or.inl ⟨by rfl, fun x j => by go_simp⟩) rfl (fun K hK => ?_)
                    go_simp
                    refine hK _ _ ?_
                    clear hK K
                    refine held_take 26 (.bool false) rfl (by kernel_rfl) (by kernel_rfl) (by kernel_rfl) (fun _ _ _ h => h) (Or.inl ⟨by rfl, fun x j => by go_simp⟩) rfl (fun K hK => ?_)
                    go_simp
                    refine hK _ _ ?_
                    clear hK K
                    refine held_take 27 (.pointer (some ⟨q, 0, none⟩)) rfl (by kernel_rfl) (by kernel_rfl) (by kernel_rfl) (fun _ _ _ h => h) (Or.inl ⟨by rfl, fun x j => by go_simp⟩) rfl (fun K hK => ?_)
                    go_simp
                    refine hK _ _ ?_
                    clear hK K
                    refine held_take 29 (.pointer (some ⟨r, 0, none⟩)) rfl (by kernel_rfl) (by kernel_rfl) (by kernel_rfl) (fun _ _ _ h => h) (Or.inl ⟨by rfl, fun x j => by go_simp⟩) rfl (fun K hK => ?_)
                    go_simp
                    refine hK _ _ ?_
                    clear hK K
                    refine held_take 30 (.pointer (some ⟨r, 0, none⟩)) rfl (by kernel_rfl) (by kernel_rfl) (by kernel_rfl) (fun _ _ _ h => h) (Or.inl ⟨by rfl, fun x j => by go_simp⟩) rfl (fun K hK => ?_)
                    go_simp
                    refine hK _ _ ?_
                    clear hK K
                    refine held_take 31 (.pointer (some ⟨r, 4, none⟩)) rfl (by kernel_rfl) (by kernel_rfl) (by kernel_rfl) (fun _ _ _ h => h) (Or.inl ⟨by rfl, fun x j => by go_simp⟩) rfl (fun K hK => ?_)
                    go_simp
                    refine hK _ _ ?_
                    clear hK K
                    refine held_take 32 (.bool lk) rfl (by kernel_rfl) (by kernel_rfl) (by kernel_rfl) (fun _ _ _ h => h) (Or.inl ⟨by rfl, fun x j => by subst j; go_simp⟩) rfl (fun K hK => ?_)
                    go_simp
                    refine hK _ _ ?_
                    clear hK K
                    refine held_one 28 (by kernel_rfl) (fun K hK => wpOp_in rfl rfl ?_)
                    go_simp
                    refine (PK).mono ?_
                    rintro e w' ⟨rfl, rfl⟩
                    refine hK _ _ rfl ?_
                    clear hK K
                    refine held_take 33 (.bool false) rfl (by kernel_rfl) (by kernel_rfl) (by kernel_rfl) (fun _ _ _ h => h) (Or.inl ⟨by rfl, fun x j => by go_simp⟩) rfl (fun K hK => ?_)
                    go_simp
                    refine hK _ _ ?_
                    clear hK K
                    refine held_take 34 (.bool false) rfl (by kernel_rfl) (by kernel_rfl) (by kernel_rfl) (fun _ _ _ h => h) (Or.inl ⟨by rfl, fun x j => by go_simp⟩) rfl (fun K hK => ?_)
                    go_simp
                    refine hK _ _ ?_
                    clear hK K
                    refine wpAnyH_done (by kernel_rfl) ?_ _
                    clear PL PB PS PK d1 d2 d3 d4
                    go_wp2
                    go_roundw
                    case rel => exact ⟨k + 1, by omega, by go_num, NX⟩
                    case measure => simp [intOf]; omega
                case first =>
                  by_cases hk : y.kd = 1
                  · as_aux_lemma =>
                      have ok := hP.ok
                      have bo := bm.ops
                      have nlen := hP.row.n
                      have lbn := lb.n
                      have C1 := Lib.hid fun w (h : Pr W w p u D D q r L L v xs [(B, box y)]) => pr_add h (by omega) (lb.fits (by omega)) y.x hy.x
                      have R1 := Lib.hid fun w (h : Pr W w p u (addL D L y.x).2.1 D q r (addL D L y.x).2.2 L v xs [(B, box y)]) => rpr_add h bm.pw (by omega) (lb.fits (by omega)) (by omega) y.x hy.x
                      have BM := Lib.hid (bd_add bm ok lb (x := y.x))
                      clear ok bo nlen lbn lb bm
                      generalize addL D L y.x = a3 at C1 R1 BM
                      obtain ⟨e1, D1, L1⟩ := a3
                      simp only at C1 R1 BM
                      have LX := Lib.hid (fun (z : World) (h : z.heap[B]? = some (box y)) => box_x h hy)
                      rw [hk]
                      go_upto_region 42 with fail
                      refine wp_region_held (S := fun z => z.heap[B]? = some (box y)) (by kernel_rfl) ?_
                      change wpAnyH _ _ _ _ _ _ _ _ wc.drew
                      replace hP := hP.drew
                      generalize wc.drew = wd at hP ⊢
                      have i0 : wd.heap[B]? = some (box y) := hP.box (List.mem_cons_self ..)
                      refine held_take 0 (.pointer (some ⟨q, 0, none⟩)) rfl (by kernel_rfl) (by kernel_rfl) (by kernel_rfl) (fun _ _ _ h => h) (Or.inl ⟨by rfl, fun x j => by go_simp⟩) i0 (fun K hK => ?_)
                      go_simp
                      refine hK _ _ ?_
                      clear hK K
                      refine held_take 1 (.pointer (some ⟨B, 1, none⟩)) rfl (by kernel_rfl) (by kernel_rfl) (by kernel_rfl) (fun _ _ _ h => h) (Or.inl ⟨by rfl, fun x j => by go_simp⟩) i0 (fun K hK => ?_)
                      go_simp
                      refine hK _ _ ?_
                      clear hK K
                      refine held_take 2 (.agg (slV y.x)) rfl (by kernel_rfl) (by kernel_rfl) (by kernel_rfl) (fun _ _ _ h => h) (yields_load LX.out rfl rfl rfl) i0 (fun K hK => ?_)
                      go_simp
                      refine hK _ _ ?_
                      clear hK K
                      refine held_take 4 (.pointer (some ⟨r, 0, none⟩)) rfl (by kernel_rfl) (by kernel_rfl) (by kernel_rfl) (fun _ _ _ h => h) (Or.inl ⟨by rfl, fun x j => by go_simp⟩) i0 (fun K hK => ?_)
                      go_simp
                      refine hK _ _ ?_
                      clear hK K
                      refine held_take 5 (.pointer (some ⟨B, 1, none⟩)) rfl (by kernel_rfl) (by kernel_rfl) (by kernel_rfl) (fun _ _ _ h => h) (Or.inl ⟨by rfl, fun x j => by go_simp⟩) i0 (fun K hK => ?_)
                      go_simp
                      refine hK _ _ ?_
                      clear hK K
                      refine held_take 6 (.agg (slV y.x)) rfl (by kernel_rfl) (by kernel_rfl) (by kernel_rfl) (fun _ _ _ h => h) (yields_load LX.out rfl rfl rfl) i0 (fun K hK => ?_)
                      go_simp
                      refine hK _ _ ?_
                      clear hK K
                      refine held_one 3 (by kernel_rfl) (fun K hK => wpOp_in rfl rfl ?_)
                      go_simp
                      refine (C1.out _ hP).mono ?_
                      rintro e w4 ⟨rfl, h4⟩
                      have i1 : w4.heap[B]? = some (box y) := h4.box (List.mem_cons_self ..)
                      refine hK _ _ i1 ?_
                      clear hP C1 i0
                      clear hK K
                      refine held_one 7 (by kernel_rfl) (fun K hK => wpOp_in rfl rfl ?_)
                      go_simp
                      refine (R1.out _ h4).mono ?_
                      rintro e w5 ⟨rfl, v', xs', h5⟩
                      have i2 : w5.heap[B]? = some (box y) := h5.box (List.mem_cons_self ..)
                      refine hK _ _ i2 ?_
                      clear h4 R1 i1
                      clear hK K
                      refine held_take 8 (.bool false) rfl (by kernel_rfl) (by kernel_rfl) (by kernel_rfl) (fun _ _ _ h => h) (Or.inl ⟨by rfl, fun x j => by go_simp⟩) i2 (fun K hK => ?_)
                      go_simp
                      refine hK _ _ ?_
                      clear hK K
                      refine wpAnyH_done (by kernel_rfl) ?_ _
                      have RE : Sk W w5 p u q r (k + 1) [(B, box y)] := ⟨_, _, _, _, BM.out.1, BM.out.2, h5⟩
                      clear h5 i2 BM LX
                      go_wp2
                      go_meet
                      case rel => exact RE
                  have n1 : (y.kd == 1) = false := by simpa using hk
                  clear hk
                  by_cases hk : y.kd = 2
                  · as_aux_lemma =>
                      have ok := hP.ok
                      have bo := bm.ops
                      have C1 := pr_sync hP (by omega)
                      have R1 := Lib.hid fun w (h : Pr W w p u (syncL D L).2.1 D q r (syncL D L).2.2 L v xs [(B, box y)]) => rpr_sync h bm.pw (by omega)
                      have BM := Lib.hid (bd_sync bm ok lb)
                      clear ok bo lb bm hP
                      generalize syncL D L = a3 at C1 R1 BM
                      obtain ⟨e1, D1, L1⟩ := a3
                      simp only at C1 R1 BM
                      rw [hk]
                      go_wp2_with fail
                      refine C1.mono ?_
                      rintro e w4 ⟨rfl, h4⟩
                      have R2 := R1.out w4 h4
                      clear C1 R1 h4
                      go_wp2_with fail
                      refine R2.mono ?_
                      rintro e w5 ⟨rfl, v', xs', h5⟩
                      have RE : Sk W w5 p u q r (k + 1) [(B, box y)] := ⟨_, _, _, _, BM.out.1, BM.out.2, h5⟩
                      clear R2 h5 BM
                      go_wp2
                      go_meet
                      case rel => exact RE
                  have n2 : (y.kd == 2) = false := by simpa using hk
                  clear hk
                  by_cases hk : y.kd = 3
                  · as_aux_lemma =>
                      have ok := hP.ok
                      have bo := bm.ops
                      have C1 := Lib.hid fun w (h : Pr W w p u D D q r L L v xs [(B, box y)]) => pr_rew h (by omega) (LSY.out w h.below) (by omega)
                      have R1 := Lib.hid fun w (h : Pr W w p u (rewL D L y.ls).2.1 D q r (rewL D L y.ls).2.2 L v xs [(B, box y)]) => rpr_rew h bm.pw (by omega) LSW.out hy.nl (by omega)
                      have BM := Lib.hid (bd_rew bm ok lb z1)
                      clear ok bo lb bm
                      generalize rewL D L y.ls = a3 at C1 R1 BM
                      obtain ⟨e1, D1, L1⟩ := a3
                      simp only at C1 R1 BM
                      have CV := Lib.hid (fun (z : World) (h : z.heap[B]? = some (box y)) => (box_cell h hy).2.1)
                      have VV : y.v = .slice y.lb y.ls.length y.lc := rfl
                      generalize y.v = yv at C1 R1 CV VV
                      subst VV
                      rw [hk]
                      go_upto_region 48 with fail
                      refine wp_region_held (S := fun z => z.heap[B]? = some (box y)) (by kernel_rfl) ?_
                      change wpAnyH _ _ _ _ _ _ _ _ wc.drew
                      replace hP := hP.drew
                      generalize wc.drew = wd at hP ⊢
                      have i0 : wd.heap[B]? = some (box y) := hP.box (List.mem_cons_self ..)
                      refine held_take 0 (.pointer (some ⟨q, 0, none⟩)) rfl (by kernel_rfl) (by kernel_rfl) (by kernel_rfl) (fun _ _ _ h => h) (Or.inl ⟨by rfl, fun x j => by go_simp⟩) i0 (fun K hK => ?_)
                      go_simp
                      refine hK _ _ ?_
                      clear hK K
                      refine held_take 1 (.pointer (some ⟨B, 39, none⟩)) rfl (by kernel_rfl) (by kernel_rfl) (by kernel_rfl) (fun _ _ _ h => h) (Or.inl ⟨by rfl, fun x j => by go_simp⟩) i0 (fun K hK => ?_)
                      go_simp
                      refine hK _ _ ?_
                      clear hK K
                      refine held_take 2 (.slice y.lb y.ls.length y.lc) rfl (by kernel_rfl) (by kernel_rfl) (by kernel_rfl) (fun _ _ _ h => h) (Or.inl ⟨by rfl, fun x j => by have c0 := CV.out x j; go_simp⟩) i0 (fun K hK => ?_)
                      go_simp
                      refine hK _ _ ?_
                      clear hK K
                      refine held_take 4 (.pointer (some ⟨r, 0, none⟩)) rfl (by kernel_rfl) (by kernel_rfl) (by kernel_rfl) (fun _ _ _ h => h) (Or.inl ⟨by rfl, fun x j => by go_simp⟩) i0 (fun K hK => ?_)
                      go_simp
                      refine hK _ _ ?_
                      clear hK K
                      refine held_take 5 (.pointer (some ⟨B, 39, none⟩)) rfl (by kernel_rfl) (by kernel_rfl) (by kernel_rfl) (fun _ _ _ h => h) (Or.inl ⟨by rfl, fun x j => by go_simp⟩) i0 (fun K hK => ?_)
                      go_simp
                      refine hK _ _ ?_
                      clear hK K
                      refine held_take 6 (.slice y.lb y.ls.length y.lc) rfl (by kernel_rfl) (by kernel_rfl) (by kernel_rfl) (fun _ _ _ h => h) (Or.inl ⟨by rfl, fun x j => by have c0 := CV.out x j; go_simp⟩) i0 (fun K hK => ?_)
                      go_simp
                      refine hK _ _ ?_
                      clear hK K
                      refine held_one 3 (by kernel_rfl) (fun K hK => wpOp_in rfl rfl ?_)
                      go_simp
                      refine (C1.out _ hP).mono ?_
                      rintro e w4 ⟨rfl, h4⟩
                      have i1 : w4.heap[B]? = some (box y) := h4.box (List.mem_cons_self ..)
                      refine hK _ _ i1 ?_
                      clear hP C1 i0
                      clear hK K
                      refine held_one 7 (by kernel_rfl) (fun K hK => wpOp_in rfl rfl ?_)
                      go_simp
                      refine (R1.out _ h4).mono ?_
                      rintro e w5 ⟨rfl, v', xs', h5⟩
                      have i2 : w5.heap[B]? = some (box y) := h5.box (List.mem_cons_self ..)
                      refine hK _ _ i2 ?_
                      clear h4 R1 i1
                      clear hK K
                      refine held_take 8 (.bool false) rfl (by kernel_rfl) (by kernel_rfl) (by kernel_rfl) (fun _ _ _ h => h) (Or.inl ⟨by rfl, fun x j => by go_simp⟩) i2 (fun K hK => ?_)
                      go_simp
                      refine hK _ _ ?_
                      clear hK K
                      refine wpAnyH_done (by kernel_rfl) ?_ _
                      have RE : Sk W w5 p u q r (k + 1) [(B, box y)] := ⟨_, _, _, _, BM.out.1, BM.out.2, h5⟩
                      clear h5 i2 BM CV
                      go_wp2
                      go_meet
                      case rel => exact RE
                  have n3 : (y.kd == 3) = false := by simpa using hk
                  clear hk
                  have RE : Sk W wc p u q r (k + 1) [(B, box y)] := ⟨_, _, _, _, bm.next, lb.up, hP⟩
                  clear hP lb bm
                  go_wp2
                  go_meet
                  case rel => exact RE
          case first =>
            by_cases hk : y.kd = 4
            · as_aux_lemma =>
                have hX := Both.less hB lg.sub
                have ok := hX.ok
                have bo := bd.ops
                have bu := bd.used
                by_cases c : (load D).2.1 = 0
                · have PO := p_open_yes hX (by omega) c
                  have RO := Lib.hid fun w q xs n (h : Both W w p u (load D).2.2 D [(q, dob p (lgR D xs n)), (B, box y)]) (rd : Reads (nb (load D).1) xs n) (hq : W.heap.size ≤ q) (hx : ∀ x ∈ [(B, box y)], x.1 ≠ q) => r_open_yes h bd.pw (by omega) (by omega) c rd hq hx
                  have BM := Lib.hid (bd_load bd ok)
                  have LM := Lib.hid fun xs n (rd : Reads (nb (load D).1) xs n) => lb_load (k := k) (by omega) rd (decide (n < (load D).1.length))
                  have LE := Lib.hid fun xs n (rd : Reads (nb (load D).1) xs n) => reads_small (by omega) rd
                  clear hB lg hX bd ok bo bu c
                  rw [hk]
                  go_wp2_with fail
                  refine PO.mono ?_
                  rintro e w4 ⟨q, g, cp, xs, n, rfl, rd, row, hB, hq, hx⟩
                  have RO1 := RO.out w4 q xs n hB rd hq hx
                  have LB := LM.out xs n rd
                  have ls := LE.out xs n rd
                  have lsi : (xs.length : Int) ≤ 1000000 := by omega
                  clear PO RO hB LM LE rd hq hx
                  go_wp2_with fail
                  refine RO1.mono ?_
                  rintro e w5 ⟨r, g2, cp2, rfl, hP, kp⟩
                  have SM := same_any (owns_sls (kp.owns row.own) row.ok) (owns_sls hP.row.own hP.row.ok) (by omega) (by omega)
                  rw [sameB_yes rfl] at SM
                  have c1 : w5.cell? ⟨r, 1, none⟩ = some (.slice g2 xs.length cp2) := hP.at.cell 1
                  clear RO1 kp row
                  go_wp2_with fail
                  refine SM.mono ?_
                  rintro e w6 ⟨rfl, G⟩
                  clear SM c1
                  have RE : Sm W w6 p u (.pointer (some ⟨q, 0, none⟩)) (.pointer (some ⟨r, 0, none⟩)) k [(B, box y)] := sm_log BM.out LB (hP.kept G)
                  clear hP G LB BM
                  go_wp2
                  go_meet
                  case rel => exact RE
                · have PO := p_open_no hX (by omega) c
                  have RO := Lib.hid fun w (h : Both W w p u (load D).2.2 D [(B, box y)]) => r_open_no h bd.pw (by omega) (by omega) c
                  have BM := Lib.hid (bd_load bd ok)
                  clear hB lg hX bd ok bo bu c
                  generalize (load D).2.1 = e1 at PO RO
                  rw [hk]
                  go_wp2_with fail
                  refine PO.mono ?_
                  rintro e w4 ⟨rfl, hB⟩
                  have RO1 := RO.out w4 hB
                  clear PO RO hB
                  go_wp2_with fail
                  refine RO1.mono ?_
                  rintro e w5 ⟨rfl, hB⟩
                  clear RO1
                  have RE : Sm W w5 p u (.pointer none) (.pointer none) k [(B, box y)] := sm_nil BM.out hB
                  clear hB BM
                  go_wp2
                  go_meet
                  case rel => exact RE
            have n4 : (y.kd == 4) = false := by simpa using hk
            clear hk
            by_cases hk : y.kd = 5
            · as_aux_lemma =>
                have ok := hB.ok
                have bo := bd.ops
                have C1 := Both.frame (R := fun e => e = .returned (.tuple #[])) hB fun X h => Pk.both_arm h (by omega) y.pos y.n y.m hy.m
                have R1 := Lib.hid fun w (h : Both W w p u (D.arm y.pos y.n y.m) D Z) => Both.frame (R := fun e => e = .returned (.tuple #[])) h fun X h => Pk.rboth_arm h (by omega) y.pos y.n y.m hy.m
                have BM := Lib.hid (bd_arm bd y.pos y.n y.m)
                have SUB := Lib.hid lg.sub
                have hbx : w3.heap[B]? = some (box y) := hB.at (lg.sub _ (List.mem_cons_self ..))
                obtain ⟨_, _, b40, b41, b42, _⟩ := box_cell hbx hy
                clear hB bd ok bo hbx
                rw [hk]
                go_wp2_with fail
                refine C1.mono ?_
                rintro e w4 ⟨rfl, h4, k4⟩
                replace lg := lg.kp k4
                have hbx : w4.heap[B]? = some (box y) := h4.at (SUB.out _ (List.mem_cons_self ..))
                clear b40 b41 b42
                obtain ⟨_, _, b40, b41, b42, _⟩ := box_cell hbx hy
                have R2 := R1.out w4 h4
                clear C1 R1 h4 k4 hbx
                go_wp2_with fail
                refine R2.mono ?_
                rintro e w5 ⟨rfl, h5, k5⟩
                replace lg := lg.kp k5
                have RE : Sm W w5 p u _ _ k [(B, box y)] := sm_of BM.out h5 lg
                clear R2 h5 k5 lg BM b40 b41 b42
                go_wp2
                go_meet
                case rel => exact RE
            have n5 : (y.kd == 5) = false := by simpa using hk
            clear hk
            by_cases hk : y.kd = 6
            · as_aux_lemma =>
                have hX := Both.less hB lg.sub
                have C1 := Pk.both_off hX
                have C2 := Lib.hid fun w (h : Both W w p u D.offd D [(B, box y)]) => Pk.rboth_off h
                have C3 := Lib.hid fun w (h : Both W w p u D.offd D.offd [(B, box y)]) => p_on2 h y.pos y.n
                have C4 := Lib.hid fun w (h : Both W w p u (D.offd.on [y.pos, y.n]) D.offd [(B, box y)]) => r_on2 h hy.pos hy.n
                have BM := Lib.hid (bd_power bd [y.pos, y.n])
                clear hB hX lg bd
                rw [hk]
                go_wp2_with fail
                refine C1.mono ?_
                rintro e w4 ⟨rfl, h4⟩
                have D2 := C2.out w4 h4
                clear C1 C2 h4
                go_wp2_with fail
                refine D2.mono ?_
                rintro e w5 ⟨rfl, h5⟩
                have D3 := C3.out w5 h5
                have hbx : w5.heap[B]? = some (box y) := h5.at (List.mem_cons_self ..)
                obtain ⟨_, _, b40, b41, _⟩ := box_cell hbx hy
                clear D2 C3 h5 hbx
                go_wp2_with fail
                refine D3.mono ?_
                rintro e w6 ⟨rfl, h6⟩
                have D4 := C4.out w6 h6
                have hbx : w6.heap[B]? = some (box y) := h6.at (List.mem_cons_self ..)
                clear b40 b41
                obtain ⟨_, _, b40, b41, _⟩ := box_cell hbx hy
                clear D3 C4 h6 hbx
                go_wp2_with fail
                refine D4.mono ?_
                rintro e w7 ⟨rfl, h7⟩
                have RE : Sm W w7 p u (.pointer none) (.pointer none) k [(B, box y)] := sm_nil BM.out h7
                clear D4 h7 BM b40 b41
                go_wp2
                go_meet
                case rel => exact RE
            have n6 : (y.kd == 6) = false := by simpa using hk
            clear hk
            by_cases hk : y.kd = 7
            · as_aux_lemma =>
                obtain ⟨bb, bw⟩ : ∃ bb : UInt8, IntKind.u8.wrap y.n = (bb.toNat : Int) := ⟨_, Pk.byte_wrap y.n⟩
                have ok := hB.ok
                have bo := bd.ops
                have C1 := Both.frame (R := fun e => e = .returned (.bool (D.flip dN y.pos bb).1)) hB fun X h => Pk.both_flip h (s := dS) (by decide) y.pos hy.pos bb
                have R1 := Lib.hid fun w (h : Both W w p u ((D.flip dN y.pos bb).2) D Z) => Both.frame (R := fun e => e = .returned (.bool (D.flip dN y.pos bb).1)) h fun X h => Pk.rboth_flip h (s := dS) y.pos hy.pos bb
                have BM := Lib.hid (bd_flip bd ok dN y.pos bb)
                have SUB := Lib.hid lg.sub
                have hbx : w3.heap[B]? = some (box y) := hB.at (lg.sub _ (List.mem_cons_self ..))
                obtain ⟨_, _, b40, b41, _, _⟩ := box_cell hbx hy
                clear hB bd ok bo hbx
                rw [hk]
                go_wp2_with fail
                refine C1.mono ?_
                rintro e w4 ⟨rfl, h4, k4⟩
                replace lg := lg.kp k4
                have hbx : w4.heap[B]? = some (box y) := h4.at (SUB.out _ (List.mem_cons_self ..))
                clear b40 b41
                obtain ⟨_, _, b40, b41, _, _⟩ := box_cell hbx hy
                have R2 := R1.out w4 h4
                clear C1 R1 h4 k4 hbx
                go_wp2_with fail
                refine R2.mono ?_
                rintro e w5 ⟨rfl, h5, k5⟩
                replace lg := lg.kp k5
                have RE : Sm W w5 p u _ _ k [(B, box y)] := sm_of BM.out h5 lg
                clear R2 h5 k5 lg BM b40 b41
                go_wp2
                go_meet
                case rel => exact RE
            have n7 : (y.kd == 7) = false := by simpa using hk
            clear hk
            by_cases hk : y.kd = 8
            · as_aux_lemma =>
                have hX := Both.less hB lg.sub
                have ok := hX.ok
                have bo := bd.ops
                have C1 := Pk.both_append hX (by omega) (s := dS) (t := y.s) (by decide) (by omega)
                have R1 := Lib.hid fun w (h : Both W w p u (D.append dN (kl y.s)).2 D [(B, box y)]) => Pk.rboth_append h bd.pw (by omega) (s := dS) (t := y.s) (by decide) (by omega)
                have BM := Lib.hid (bd_append bd ok dN (kl y.s) (by rw [Pk.kl_len]; omega))
                have hbx : w3.heap[B]? = some (box y) := hX.at (List.mem_cons_self ..)
                obtain ⟨_, _, _, _, _, b43⟩ := box_cell hbx hy
                clear hB hX lg bd ok bo hbx
                rw [hk]
                go_wp2_with fail
                refine C1.mono ?_
                rintro e w4 ⟨rfl, h4⟩
                have hbx : w4.heap[B]? = some (box y) := h4.at (List.mem_cons_self ..)
                clear b43
                obtain ⟨_, _, _, _, _, b43⟩ := box_cell hbx hy
                have R2 := R1.out w4 h4
                clear C1 R1 h4 hbx
                go_wp2_with fail
                refine R2.mono ?_
                rintro e w5 ⟨rfl, h5⟩
                have RE : Sm W w5 p u (.pointer none) (.pointer none) k [(B, box y)] := sm_nil BM.out h5
                clear R2 h5 BM b43
                go_wp2
                go_meet
                case rel => exact RE
            have n8 : (y.kd == 8) = false := by simpa using hk
            clear hk
            have RE : Sm W w3 p u _ _ k [(B, box y)] := sm_of bd.same hB lg
            clear hB lg bd
            go_wp2
            go_meet
            case rel => exact RE
      · as_aux_lemma =>
          have l2 : ¬ (k : Int) < 60 := by omega
          have PX : Ex W p u wr := ex_of SK
          clear SK CH OK LS LS0
          go_wp2
          go_meet
          case rel => exact PX
    · as_aux_lemma =>
        have l1 : ¬ (k : Int) < (ys.length : Int) := by omega
        have PX : Ex W p u wr := ex_of SK
        clear SK CH OK LS LS0
        go_wp2
        go_meet
        case rel => exact PX
end Go.Proofs.YtdmgobffhpgjlaaGreat.Sl.Dg
