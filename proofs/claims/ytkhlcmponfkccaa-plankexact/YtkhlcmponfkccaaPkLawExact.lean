/-
  PlankExact: of every row of calls, raw ones too, with whatever faults, losses of power, and turned bytes, each answer, and all that is on the disk, is what the document says.
-/
import Derived.Test.YtkhlcmponfkccaaPkBoth
import Derived.OpenShut
import Derived.ProofKit
import Derived.ShutString
import Derived.Deep.Cut
import Derived.Deep.CutBlock
import Derived.Laws.Bits64
import Derived.Laws.Cover1
import Derived.Laws.Strings
namespace Go.Proofs.Ytkhlcmponfkccaa.PkLawExact
open Go.ChangeShapes Go.WideShapes Go.ChangeAt Go.RowKit Go.PlainAid Go.Proofs.Ytkhlcmponfkccaa.Pk
open Go.ChangeMaps (open_string shut_string)
set_option linter.unusedVariables false
set_option linter.unusedSimpArgs false

def Rel (W : World) (p u k : Nat) (e f : Value) (w : World) : Prop := ∃ (r : Int) (D : Dk), e = .int .i64 r ∧ f = .int .i64 r ∧ Both W w p u D D [] ∧ D.Pw ∧ D.ops ≤ ((k + 1 : Nat) : Int)
def Pair (W w : World) (p u k : Nat) : Prop := ∃ D, Both W w p u D D [] ∧ D.Pw ∧ D.ops ≤ (k : Int)
def Ex (W : World) (p u : Nat) (w : World) : Prop := ∃ k : Nat, Pair W w p u k
def Lp (W : World) (p u : Nat) (i : Value) (w : World) : Prop := ∃ k : Nat, k ≤ 150 ∧ i = .int .i64 k ∧ Pair W w p u k
theorem Pair.below {W w : World} {p u k : Nat} (h : Pair W w p u k) : Below W.heap.size W w := by
  obtain ⟨D, hd, _⟩ := h
  exact hd.below
theorem new_steps (room : Int) : (Dk.new room).Pw ∧ (Dk.new room).ops ≤ ((0 : Nat) : Int) := ⟨fun e => by simp [Dk.new] at e, by simp [Dk.new]⟩
set_option maxRecDepth 100000 in
set_option maxHeartbeats 16000000 in
theorem walk {v1 : Value} (room : Int) (xs : List Ac) {W : World} (w0 : (Lit.int .i64 room).wf = true) (hv : ActsAt W v1 xs) (hl : xs.length ≤ 9223372036854775807) (W' : World) :
    Calls Try.prog 3 #[.int .i64 room, v1] W fun e w' => e = .returned (.bool true) ∧ Below W.heap.size W w' := by
  have AW := awake_any W
  have ST := Lib.hid fun w (hb : Below W.heap.size W w) => has_new W hb room
  have SU := Lib.hid fun w p (h : HasD W w p (Dk.new room) []) => both_new W h.below room h
  have AHH := Lib.hid fun x (hx : x ∈ xs) => hv.ahead hx
  obtain ⟨tb, tc, rfl, hc⟩ := hv.is
  have HC : ∀ k x, xs[k]? = some x → ∃ a : Addr, tb = some a ∧ ∀ w, Below W.heap.size W w → LoadsA Try.prog w 30 (a.add (k * 8)) x.cells := by
    intro k x hs
    obtain ⟨a, e, ha, hcell⟩ := hc k x hs
    exact ⟨a, e, fun w hb => loads_act fun i c hi => by rw [hb.cell (by rw [add_block, add_block]; exact ha)]; exact hcell i c hi⟩
  have CH := Lib.hid HC
  have OK := Lib.hid hv.ok
  have hz := zact
  clear hv hc HC
  go_enter Try.func3, Try.ntmps3
  go_wp2_with fail
  refine AW.mono ?_
  rintro e w1 ⟨rfl, hb1⟩
  have ST1 := ST.out w1 hb1
  clear AW ST hb1
  go_wp2_with fail
  refine ST1.mono ?_
  rintro e w2 ⟨p, rfl, h2⟩
  have SU1 := SU.out w2 p h2
  clear ST1 SU h2
  go_wp2_with fail
  refine SU1.mono ?_
  rintro e w2' ⟨u, rfl, h2⟩
  have C0 : Pair W w2' p u 0 := ⟨_, h2, new_steps room⟩
  clear SU1 h2
  go_upto_block 0 with fail
  go_cut [] from 18 (fun w => Ex W p u w)
  case rest =>
    obtain ⟨k, PR⟩ := hcut
    clear C0 CH OK AHH hz
    as_aux_lemma =>
      obtain ⟨D, hB, pw, ho⟩ := PR
      have LI := both_list hB
      have cnt := hB.ok.cnt
      clear hB
      go_wp2_with fail
      refine LI.mono ?_
      rintro e w8 ⟨v8, rfl, ⟨o8, c8, rfl, NM⟩, h8, _⟩
      clear LI
      have NH := Lib.hid NM
      have H8 := Lib.hid h8
      obtain ⟨_, _, ou, cu, cu0⟩ := h8.ucell
      clear NM h8
      go_wp2
      clear cu0
      go_loopw [16] (fun i wr => ∃ m : Nat, m ≤ D.L.length ∧ i = .int .i64 m ∧ Both W wr p u D D [] ∧ Below w8.heap.size w8 wr) (fun i _ => D.L.length - (intOf i).toNat)
      case atStart => exact ⟨0, Nat.zero_le _, rfl, H8.out.bare, Below.refl _ _⟩
      case round =>
        obtain ⟨m, hm, rfl, hw, bw⟩ := hrel
        clear H8
        by_cases hm1 : m < D.L.length
        · have l3 : (m : Int) < (D.L.length : Int) := by omega
          obtain ⟨f, hf⟩ : ∃ f, D.L[m]? = some f := ⟨_, List.getElem?_eq_getElem hm1⟩
          obtain ⟨gu, cu, cu0, LU⟩ := hw.ufile hf
          obtain ⟨g, rfl, _, gs, gc⟩ := NH.out m f hf
          have FM := Lib.hid (List.mem_of_getElem? hf)
          have CELL := Lib.hid (show ∀ y : World, Below w8.heap.size w8 y → y.cell? ⟨g, m, none⟩ = some (.string (nmB f.nm)) from fun y b => by rw [b.cell (by simpa using gs)]; exact gc)
          have SZ := Lib.hid (nmB_size f.bs)
          obtain ⟨Y, S, hY, bY⟩ := box_fi wr f
          have hYB := hw.more bY (Nat.le_refl _) hY
          have bYY := bw.trans (bY.mono bw.size)
          have hzf := zfi
          clear hf gc hw bw hY bY
          go_upto_region 60 with (first | refine wpl_loadA LU rfl rfl rfl ?_ | refine wpl_store S rfl rfl rfl rfl rfl ?_)
          clear S LU cu0 hzf
          generalize wr.heap.size = B at *
          refine wp_region_held (S := fun y => Both W y p u D D [(B, (.cells #[.string (nmB f.nm), .string (nmB f.bs), .int .i64 (f.sf : Int)] 52 (0, 0)))] ∧ Below w8.heap.size w8 y) (by kernel_rfl) ?_
          change wpAnyH _ _ _ _ _ _ _ _ Y.drew
          have j0 : Both W Y.drew p u D D [(B, (.cells #[.string (nmB f.nm), .string (nmB f.bs), .int .i64 (f.sf : Int)] 52 (0, 0)))] ∧ Below w8.heap.size w8 Y.drew := ⟨hYB.drew, bYY.drew⟩
          clear hYB bYY
          generalize Y.drew = wd at j0 ⊢
          refine held_take 0 (.slice (some ⟨g, 0, none⟩) D.L.length c8) rfl (by kernel_rfl) (by kernel_rfl) (by kernel_rfl) (fun _ _ _ h => h) (Or.inl ⟨by rfl, fun x j => by go_simp⟩) j0 (fun K hK => ?_)
          go_simp
          refine hK _ _ ?_
          clear hK K
          refine held_take 1 (.int .i64 (m : Int)) rfl (by kernel_rfl) (by kernel_rfl) (by kernel_rfl) (fun _ _ _ h => h) (Or.inl ⟨by rfl, fun x j => by go_simp⟩) j0 (fun K hK => ?_)
          go_simp
          refine hK _ _ ?_
          clear hK K
          refine held_take 2 (.pointer (some ⟨g, m, none⟩)) rfl (by kernel_rfl) (by kernel_rfl) (by kernel_rfl) (fun _ _ _ h => h) (Or.inl ⟨by rfl, fun x j => by go_simp⟩) j0 (fun K hK => ?_)
          go_simp
          refine hK _ _ ?_
          clear hK K
          refine held_take 3 (.string (nmB f.nm)) rfl (by kernel_rfl) (by kernel_rfl) (by kernel_rfl) (fun _ _ _ h => h) (Or.inl ⟨by rfl, fun x j => by have c0 := CELL.out x j.2; go_simp⟩) j0 (fun K hK => ?_)
          go_simp
          refine hK _ _ ?_
          clear hK K
          refine held_take 4 (.pointer (some ⟨B, 0, none⟩)) rfl (by kernel_rfl) (by kernel_rfl) (by kernel_rfl) (fun _ _ _ h => h) (Or.inl ⟨by rfl, fun x j => by go_simp⟩) j0 (fun K hK => ?_)
          go_simp
          refine hK _ _ ?_
          clear hK K
          refine held_take 5 (.string (nmB f.nm)) rfl (by kernel_rfl) (by kernel_rfl) (by kernel_rfl) (fun _ _ _ h => h) (Or.inl ⟨by rfl, fun x j => by have c0 := cell_of_row x B 0 _ _ _ (j.1.at (List.mem_cons_self)); simp at c0; go_simp⟩) j0 (fun K hK => ?_)
          go_simp
          refine hK _ _ ?_
          clear hK K
          refine held_take 6 (.bool false) rfl (by kernel_rfl) (by kernel_rfl) (by kernel_rfl) (fun _ _ _ h => h) (Or.inl ⟨by rfl, fun x j => by go_simp⟩) j0 (fun K hK => ?_)
          go_simp
          refine hK _ _ ?_
          clear hK K
          refine held_take 7 (.bool false) rfl (by kernel_rfl) (by kernel_rfl) (by kernel_rfl) (fun _ _ _ h => h) (Or.inl ⟨by rfl, fun x j => by go_simp⟩) j0 (fun K hK => ?_)
          go_simp
          refine hK _ _ ?_
          clear hK K
          refine held_take 8 (.pointer (some ⟨p, 0, none⟩)) rfl (by kernel_rfl) (by kernel_rfl) (by kernel_rfl) (fun _ _ _ h => h) (Or.inl ⟨by rfl, fun x j => by go_simp⟩) j0 (fun K hK => ?_)
          go_simp
          refine hK _ _ ?_
          clear hK K
          refine held_take 9 (.slice (some ⟨g, 0, none⟩) D.L.length c8) rfl (by kernel_rfl) (by kernel_rfl) (by kernel_rfl) (fun _ _ _ h => h) (Or.inl ⟨by rfl, fun x j => by go_simp⟩) j0 (fun K hK => ?_)
          go_simp
          refine hK _ _ ?_
          clear hK K
          refine held_take 10 (.int .i64 (m : Int)) rfl (by kernel_rfl) (by kernel_rfl) (by kernel_rfl) (fun _ _ _ h => h) (Or.inl ⟨by rfl, fun x j => by go_simp⟩) j0 (fun K hK => ?_)
          go_simp
          refine hK _ _ ?_
          clear hK K
          refine held_take 11 (.pointer (some ⟨g, m, none⟩)) rfl (by kernel_rfl) (by kernel_rfl) (by kernel_rfl) (fun _ _ _ h => h) (Or.inl ⟨by rfl, fun x j => by go_simp⟩) j0 (fun K hK => ?_)
          go_simp
          refine hK _ _ ?_
          clear hK K
          refine held_take 12 (.string (nmB f.nm)) rfl (by kernel_rfl) (by kernel_rfl) (by kernel_rfl) (fun _ _ _ h => h) (Or.inl ⟨by rfl, fun x j => by have c0 := CELL.out x j.2; go_simp⟩) j0 (fun K hK => ?_)
          go_simp
          refine hK _ _ ?_
          clear hK K
          refine held_take 14 (.pointer (some ⟨B, 1, none⟩)) rfl (by kernel_rfl) (by kernel_rfl) (by kernel_rfl) (fun _ _ _ h => h) (Or.inl ⟨by rfl, fun x j => by go_simp⟩) j0 (fun K hK => ?_)
          go_simp
          refine hK _ _ ?_
          clear hK K
          refine held_take 15 (.string (nmB f.bs)) rfl (by kernel_rfl) (by kernel_rfl) (by kernel_rfl) (fun _ _ _ h => h) (Or.inl ⟨by rfl, fun x j => by have c0 := cell_of_row x B 1 _ _ _ (j.1.at (List.mem_cons_self)); simp at c0; go_simp⟩) j0 (fun K hK => ?_)
          go_simp
          refine hK _ _ ?_
          clear hK K
          refine held_one 13 (by kernel_rfl) (fun K hK => wpOp_in rfl rfl ?_)
          go_simp
          refine (both_bytes j0.1 FM.out).mono ?_
          rintro e w' ⟨rfl, rfl⟩
          refine hK _ _ j0 ?_
          clear hK K
          refine held_take 16 (.bool false) rfl (by kernel_rfl) (by kernel_rfl) (by kernel_rfl) (fun _ _ _ h => h) (Or.inl ⟨by rfl, fun x j => by go_simp⟩) j0 (fun K hK => ?_)
          go_simp
          refine hK _ _ ?_
          clear hK K
          refine held_take 17 (.bool false) rfl (by kernel_rfl) (by kernel_rfl) (by kernel_rfl) (fun _ _ _ h => h) (Or.inl ⟨by rfl, fun x j => by go_simp⟩) j0 (fun K hK => ?_)
          go_simp
          refine hK _ _ ?_
          clear hK K
          refine held_take 18 (.bool false) rfl (by kernel_rfl) (by kernel_rfl) (by kernel_rfl) (fun _ _ _ h => h) (Or.inl ⟨by rfl, fun x j => by go_simp⟩) j0 (fun K hK => ?_)
          go_simp
          refine hK _ _ ?_
          clear hK K
          refine held_take 19 (.pointer (some ⟨p, 0, none⟩)) rfl (by kernel_rfl) (by kernel_rfl) (by kernel_rfl) (fun _ _ _ h => h) (Or.inl ⟨by rfl, fun x j => by go_simp⟩) j0 (fun K hK => ?_)
          go_simp
          refine hK _ _ ?_
          clear hK K
          refine held_take 20 (.slice (some ⟨g, 0, none⟩) D.L.length c8) rfl (by kernel_rfl) (by kernel_rfl) (by kernel_rfl) (fun _ _ _ h => h) (Or.inl ⟨by rfl, fun x j => by go_simp⟩) j0 (fun K hK => ?_)
          go_simp
          refine hK _ _ ?_
          clear hK K
          refine held_take 21 (.int .i64 (m : Int)) rfl (by kernel_rfl) (by kernel_rfl) (by kernel_rfl) (fun _ _ _ h => h) (Or.inl ⟨by rfl, fun x j => by go_simp⟩) j0 (fun K hK => ?_)
          go_simp
          refine hK _ _ ?_
          clear hK K
          refine held_take 22 (.pointer (some ⟨g, m, none⟩)) rfl (by kernel_rfl) (by kernel_rfl) (by kernel_rfl) (fun _ _ _ h => h) (Or.inl ⟨by rfl, fun x j => by go_simp⟩) j0 (fun K hK => ?_)
          go_simp
          refine hK _ _ ?_
          clear hK K
          refine held_take 23 (.string (nmB f.nm)) rfl (by kernel_rfl) (by kernel_rfl) (by kernel_rfl) (fun _ _ _ h => h) (Or.inl ⟨by rfl, fun x j => by have c0 := CELL.out x j.2; go_simp⟩) j0 (fun K hK => ?_)
          go_simp
          refine hK _ _ ?_
          clear hK K
          refine held_take 25 (.pointer (some ⟨B, 1, none⟩)) rfl (by kernel_rfl) (by kernel_rfl) (by kernel_rfl) (fun _ _ _ h => h) (Or.inl ⟨by rfl, fun x j => by go_simp⟩) j0 (fun K hK => ?_)
          go_simp
          refine hK _ _ ?_
          clear hK K
          refine held_take 26 (.string (nmB f.bs)) rfl (by kernel_rfl) (by kernel_rfl) (by kernel_rfl) (fun _ _ _ h => h) (Or.inl ⟨by rfl, fun x j => by have c0 := cell_of_row x B 1 _ _ _ (j.1.at (List.mem_cons_self)); simp at c0; go_simp⟩) j0 (fun K hK => ?_)
          go_simp
          refine hK _ _ ?_
          clear hK K
          refine held_take 27 (.int .i64 (f.bs.length : Int)) rfl (by kernel_rfl) (by kernel_rfl) (by kernel_rfl) (fun _ _ _ h => h) (Or.inl ⟨by rfl, fun x j => by have c0 := SZ.out; go_simp⟩) j0 (fun K hK => ?_)
          go_simp
          refine hK _ _ ?_
          clear hK K
          refine held_one 24 (by kernel_rfl) (fun K hK => wpOp_in rfl rfl ?_)
          go_simp
          refine (both_size j0.1 FM.out).mono ?_
          rintro e w' ⟨rfl, rfl⟩
          refine hK _ _ j0 ?_
          clear hK K
          refine held_take 28 (.bool false) rfl (by kernel_rfl) (by kernel_rfl) (by kernel_rfl) (fun _ _ _ h => h) (Or.inl ⟨by rfl, fun x j => by go_simp⟩) j0 (fun K hK => ?_)
          go_simp
          refine hK _ _ ?_
          clear hK K
          refine held_take 29 (.bool false) rfl (by kernel_rfl) (by kernel_rfl) (by kernel_rfl) (fun _ _ _ h => h) (Or.inl ⟨by rfl, fun x j => by go_simp⟩) j0 (fun K hK => ?_)
          go_simp
          refine hK _ _ ?_
          clear hK K
          refine held_take 30 (.bool false) rfl (by kernel_rfl) (by kernel_rfl) (by kernel_rfl) (fun _ _ _ h => h) (Or.inl ⟨by rfl, fun x j => by go_simp⟩) j0 (fun K hK => ?_)
          go_simp
          refine hK _ _ ?_
          clear hK K
          refine held_take 31 (.pointer (some ⟨p, 0, none⟩)) rfl (by kernel_rfl) (by kernel_rfl) (by kernel_rfl) (fun _ _ _ h => h) (Or.inl ⟨by rfl, fun x j => by go_simp⟩) j0 (fun K hK => ?_)
          go_simp
          refine hK _ _ ?_
          clear hK K
          refine held_take 32 (.slice (some ⟨g, 0, none⟩) D.L.length c8) rfl (by kernel_rfl) (by kernel_rfl) (by kernel_rfl) (fun _ _ _ h => h) (Or.inl ⟨by rfl, fun x j => by go_simp⟩) j0 (fun K hK => ?_)
          go_simp
          refine hK _ _ ?_
          clear hK K
          refine held_take 33 (.int .i64 (m : Int)) rfl (by kernel_rfl) (by kernel_rfl) (by kernel_rfl) (fun _ _ _ h => h) (Or.inl ⟨by rfl, fun x j => by go_simp⟩) j0 (fun K hK => ?_)
          go_simp
          refine hK _ _ ?_
          clear hK K
          refine held_take 34 (.pointer (some ⟨g, m, none⟩)) rfl (by kernel_rfl) (by kernel_rfl) (by kernel_rfl) (fun _ _ _ h => h) (Or.inl ⟨by rfl, fun x j => by go_simp⟩) j0 (fun K hK => ?_)
          go_simp
          refine hK _ _ ?_
          clear hK K
          refine held_take 35 (.string (nmB f.nm)) rfl (by kernel_rfl) (by kernel_rfl) (by kernel_rfl) (fun _ _ _ h => h) (Or.inl ⟨by rfl, fun x j => by have c0 := CELL.out x j.2; go_simp⟩) j0 (fun K hK => ?_)
          go_simp
          refine hK _ _ ?_
          clear hK K
          refine held_take 37 (.pointer (some ⟨B, 2, none⟩)) rfl (by kernel_rfl) (by kernel_rfl) (by kernel_rfl) (fun _ _ _ h => h) (Or.inl ⟨by rfl, fun x j => by go_simp⟩) j0 (fun K hK => ?_)
          go_simp
          refine hK _ _ ?_
          clear hK K
          refine held_take 38 (.int .i64 (f.sf : Int)) rfl (by kernel_rfl) (by kernel_rfl) (by kernel_rfl) (fun _ _ _ h => h) (Or.inl ⟨by rfl, fun x j => by have c0 := cell_of_row x B 2 _ _ _ (j.1.at (List.mem_cons_self)); simp at c0; go_simp⟩) j0 (fun K hK => ?_)
          go_simp
          refine hK _ _ ?_
          clear hK K
          refine held_one 36 (by kernel_rfl) (fun K hK => wpOp_in rfl rfl ?_)
          go_simp
          refine (both_safe j0.1 FM.out).mono ?_
          rintro e w' ⟨rfl, rfl⟩
          refine hK _ _ j0 ?_
          clear hK K
          refine held_take 39 (.bool false) rfl (by kernel_rfl) (by kernel_rfl) (by kernel_rfl) (fun _ _ _ h => h) (Or.inl ⟨by rfl, fun x j => by go_simp⟩) j0 (fun K hK => ?_)
          go_simp
          refine hK _ _ ?_
          clear hK K
          refine held_take 40 (.bool false) rfl (by kernel_rfl) (by kernel_rfl) (by kernel_rfl) (fun _ _ _ h => h) (Or.inl ⟨by rfl, fun x j => by go_simp⟩) j0 (fun K hK => ?_)
          go_simp
          refine hK _ _ ?_
          clear hK K
          refine wpAnyH_done (by kernel_rfl) ?_ _
          have J1 := j0.1.bare
          have J2 := j0.2
          clear j0 CELL
          go_wp2
          go_roundw
          case rel => exact ⟨m + 1, by omega, by go_num, J1, J2⟩
          case measure => simp [intOf]; omega
        · have l3 : ¬ (m : Int) < (D.L.length : Int) := by omega
          have bel := hw.below
          clear hw bw
          go_wp2
          go_ret
          exact ⟨rfl, bel⟩
  case first =>
  go_wp2
  go_loopw [7] (fun i wr => Lp W p u i wr) (fun i _ => 150 - (intOf i).toNat)
  case atStart => exact ⟨0, by omega, rfl, C0⟩
  case round =>
    obtain ⟨k, hk, rfl, PR⟩ := hrel
    clear C0
    by_cases hlt : k < xs.length
    · have l1 : (k : Int) < (xs.length : Int) := by omega
      by_cases h150 : k < 150
      · have l2 : (k : Int) < 150 := by omega
        have bel := PR.below
        obtain ⟨x, hs⟩ : ∃ x, xs[k]? = some x := ⟨xs[k], List.getElem?_eq_getElem hlt⟩
        obtain ⟨a, rfl, ca⟩ := CH.out k x hs
        have LA := ca wr bel
        have hx := OK.out x (List.mem_of_getElem? hs)
        have AH := Lib.hid (AHH.out x (List.mem_of_getElem? hs)).1
        have KM := Lib.hid (AHH.out x (List.mem_of_getElem? hs)).2
        obtain ⟨D, hd, pw, ho0⟩ := PR
        have ho : D.ops ≤ 1099511627776 := by omega
        obtain ⟨Y, S, hY⟩ := both_act hd x
        have LB := act_loads (hY.at (List.mem_cons_self))
        have GR := Lib.hid fun w => great_any x w
        clear ca hs hd
        go_upto_region 9 with (first | refine wpl_loadA LA rfl rfl rfl ?_ | refine wpl_store S rfl rfl rfl rfl rfl ?_)
        clear S LA
        generalize wr.heap.size = B at *
        have GY := GR.out Y
        clear GR
        go_wp2_with (first | refine wpl_load LB rfl rfl rfl ?_)
        refine GY.mono ?_
        rintro e w3 ⟨rfl, hb3⟩
        clear GY LB
        have h3 := hY.kept hb3
        clear hY hb3
        cases hgr : x.great with
        | true =>
          have bel3 := h3.below
          clear h3
          go_wp2
          go_ret
          exact ⟨rfl, bel3⟩
        | false =>
          obtain ⟨z1, z2, z3, z4⟩ := Ac.small hgr
          clear hgr
          obtain ⟨b0, _, _, _, _, _, _, _⟩ := act_cells (h3.at (List.mem_cons_self))
          go_upto_block 2 with (fail)
          clear b0
          go_cut [9, 10] from 24 to 225 (fun e f w => Rel W p u k e f w)
          case rest =>
            clear h3 hx z1 z2 z3 z4 AH KM pw ho ho0
            obtain ⟨r1, D1, rfl, rfl, h5, pw1, ho1⟩ := hcut
            as_aux_lemma =>
              go_upto_region 51 with (fail)
              refine wp_region_held (S := fun y => Both W y p u D1 D1 []) (by kernel_rfl) ?_
              change wpAnyH _ _ _ _ _ _ _ _ wc.drew
              have j0 : Both W wc.drew p u D1 D1 [] := h5.bare.drew
              clear h5
              generalize wc.drew = wd at j0 ⊢
              refine held_take 0 (.int .i64 r1) rfl (by kernel_rfl) (by kernel_rfl) (by kernel_rfl) (fun _ _ _ h => h) (Or.inl ⟨by rfl, fun x j => by go_simp⟩) j0 (fun K hK => ?_)
              go_simp
              refine hK _ _ ?_
              clear hK K
              refine held_take 1 (.int .i64 r1) rfl (by kernel_rfl) (by kernel_rfl) (by kernel_rfl) (fun _ _ _ h => h) (Or.inl ⟨by rfl, fun x j => by go_simp⟩) j0 (fun K hK => ?_)
              go_simp
              refine hK _ _ ?_
              clear hK K
              refine held_take 2 (.bool false) rfl (by kernel_rfl) (by kernel_rfl) (by kernel_rfl) (fun _ _ _ h => h) (Or.inl ⟨by rfl, fun x j => by go_simp⟩) j0 (fun K hK => ?_)
              go_simp
              refine hK _ _ ?_
              clear hK K
              refine held_take 3 (.bool false) rfl (by kernel_rfl) (by kernel_rfl) (by kernel_rfl) (fun _ _ _ h => h) (Or.inl ⟨by rfl, fun x j => by go_simp⟩) j0 (fun K hK => ?_)
              go_simp
              refine hK _ _ ?_
              clear hK K
              refine held_take 4 (.pointer (some ⟨p, 0, none⟩)) rfl (by kernel_rfl) (by kernel_rfl) (by kernel_rfl) (fun _ _ _ h => h) (Or.inl ⟨by rfl, fun x j => by go_simp⟩) j0 (fun K hK => ?_)
              go_simp
              refine hK _ _ ?_
              clear hK K
              refine held_take 6 (.pointer (some ⟨u, 0, none⟩)) rfl (by kernel_rfl) (by kernel_rfl) (by kernel_rfl) (fun _ _ _ h => h) (Or.inl ⟨by rfl, fun x j => by go_simp⟩) j0 (fun K hK => ?_)
              go_simp
              refine hK _ _ ?_
              clear hK K
              refine held_one 5 (by kernel_rfl) (fun K hK => wpOp_in rfl rfl ?_)
              go_simp
              refine (both_used j0).mono ?_
              rintro e w6 ⟨rfl, j1, _⟩
              refine hK _ _ j1 ?_
              clear hK K j0
              refine held_one 7 (by kernel_rfl) (fun K hK => wpOp_in rfl rfl ?_)
              go_simp
              refine (rboth_used j1).mono ?_
              rintro e w' ⟨rfl, rfl⟩
              refine hK _ _ j1 ?_
              clear hK K
              refine held_take 8 (.bool false) rfl (by kernel_rfl) (by kernel_rfl) (by kernel_rfl) (fun _ _ _ h => h) (Or.inl ⟨by rfl, fun x j => by go_simp⟩) j1 (fun K hK => ?_)
              go_simp
              refine hK _ _ ?_
              clear hK K
              refine held_take 9 (.bool false) rfl (by kernel_rfl) (by kernel_rfl) (by kernel_rfl) (fun _ _ _ h => h) (Or.inl ⟨by rfl, fun x j => by go_simp⟩) j1 (fun K hK => ?_)
              go_simp
              refine hK _ _ ?_
              clear hK K
              refine held_take 10 (.bool false) rfl (by kernel_rfl) (by kernel_rfl) (by kernel_rfl) (fun _ _ _ h => h) (Or.inl ⟨by rfl, fun x j => by go_simp⟩) j1 (fun K hK => ?_)
              go_simp
              refine hK _ _ ?_
              clear hK K
              refine held_take 11 (.pointer (some ⟨p, 0, none⟩)) rfl (by kernel_rfl) (by kernel_rfl) (by kernel_rfl) (fun _ _ _ h => h) (Or.inl ⟨by rfl, fun x j => by go_simp⟩) j1 (fun K hK => ?_)
              go_simp
              refine hK _ _ ?_
              clear hK K
              refine held_take 13 (.pointer (some ⟨u, 0, none⟩)) rfl (by kernel_rfl) (by kernel_rfl) (by kernel_rfl) (fun _ _ _ h => h) (Or.inl ⟨by rfl, fun x j => by go_simp⟩) j1 (fun K hK => ?_)
              go_simp
              refine hK _ _ ?_
              clear hK K
              refine held_take 14 (.pointer (some ⟨u, 0, none⟩)) rfl (by kernel_rfl) (by kernel_rfl) (by kernel_rfl) (fun _ _ _ h => h) (Or.inl ⟨by rfl, fun x j => by go_simp⟩) j1 (fun K hK => ?_)
              go_simp
              refine hK _ _ ?_
              clear hK K
              refine held_take 15 (.pointer (some ⟨u, 2, none⟩)) rfl (by kernel_rfl) (by kernel_rfl) (by kernel_rfl) (fun _ _ _ h => h) (Or.inl ⟨by rfl, fun x j => by go_simp⟩) j1 (fun K hK => ?_)
              go_simp
              refine hK _ _ ?_
              clear hK K
              refine held_take 16 (.int .i64 D1.ops) rfl (by kernel_rfl) (by kernel_rfl) (by kernel_rfl) (fun _ _ _ h => h) (Or.inl ⟨by rfl, fun x j => by have c0 := j.ucell.1; go_simp⟩) j1 (fun K hK => ?_)
              go_simp
              refine hK _ _ ?_
              clear hK K
              refine held_one 12 (by kernel_rfl) (fun K hK => wpOp_in rfl rfl ?_)
              go_simp
              refine (both_ops j1).mono ?_
              rintro e w' ⟨rfl, rfl⟩
              refine hK _ _ j1 ?_
              clear hK K
              refine held_take 17 (.bool false) rfl (by kernel_rfl) (by kernel_rfl) (by kernel_rfl) (fun _ _ _ h => h) (Or.inl ⟨by rfl, fun x j => by go_simp⟩) j1 (fun K hK => ?_)
              go_simp
              refine hK _ _ ?_
              clear hK K
              refine held_take 18 (.bool false) rfl (by kernel_rfl) (by kernel_rfl) (by kernel_rfl) (fun _ _ _ h => h) (Or.inl ⟨by rfl, fun x j => by go_simp⟩) j1 (fun K hK => ?_)
              go_simp
              refine hK _ _ ?_
              clear hK K
              refine held_take 19 (.bool false) rfl (by kernel_rfl) (by kernel_rfl) (by kernel_rfl) (fun _ _ _ h => h) (Or.inl ⟨by rfl, fun x j => by go_simp⟩) j1 (fun K hK => ?_)
              go_simp
              refine hK _ _ ?_
              clear hK K
              refine held_take 20 (.pointer (some ⟨p, 0, none⟩)) rfl (by kernel_rfl) (by kernel_rfl) (by kernel_rfl) (fun _ _ _ h => h) (Or.inl ⟨by rfl, fun x j => by go_simp⟩) j1 (fun K hK => ?_)
              go_simp
              refine hK _ _ ?_
              clear hK K
              refine held_take 22 (.pointer (some ⟨u, 0, none⟩)) rfl (by kernel_rfl) (by kernel_rfl) (by kernel_rfl) (fun _ _ _ h => h) (Or.inl ⟨by rfl, fun x j => by go_simp⟩) j1 (fun K hK => ?_)
              go_simp
              refine hK _ _ ?_
              clear hK K
              refine held_take 23 (.pointer (some ⟨u, 0, none⟩)) rfl (by kernel_rfl) (by kernel_rfl) (by kernel_rfl) (fun _ _ _ h => h) (Or.inl ⟨by rfl, fun x j => by go_simp⟩) j1 (fun K hK => ?_)
              go_simp
              refine hK _ _ ?_
              clear hK K
              refine held_take 24 (.pointer (some ⟨u, 6, none⟩)) rfl (by kernel_rfl) (by kernel_rfl) (by kernel_rfl) (fun _ _ _ h => h) (Or.inl ⟨by rfl, fun x j => by go_simp⟩) j1 (fun K hK => ?_)
              go_simp
              refine hK _ _ ?_
              clear hK K
              refine held_take 25 (.bool D1.off) rfl (by kernel_rfl) (by kernel_rfl) (by kernel_rfl) (fun _ _ _ h => h) (Or.inl ⟨by rfl, fun x j => by have c0 := j.ucell.2.1; go_simp⟩) j1 (fun K hK => ?_)
              go_simp
              refine hK _ _ ?_
              clear hK K
              refine held_one 21 (by kernel_rfl) (fun K hK => wpOp_in rfl rfl ?_)
              go_simp
              refine (both_down j1).mono ?_
              rintro e w' ⟨rfl, rfl⟩
              refine hK _ _ j1 ?_
              clear hK K
              refine held_take 26 (.bool false) rfl (by kernel_rfl) (by kernel_rfl) (by kernel_rfl) (fun _ _ _ h => h) (Or.inl ⟨by rfl, fun x j => by go_simp⟩) j1 (fun K hK => ?_)
              go_simp
              refine hK _ _ ?_
              clear hK K
              refine held_take 27 (.bool false) rfl (by kernel_rfl) (by kernel_rfl) (by kernel_rfl) (fun _ _ _ h => h) (Or.inl ⟨by rfl, fun x j => by go_simp⟩) j1 (fun K hK => ?_)
              go_simp
              refine hK _ _ ?_
              clear hK K
              refine wpAnyH_done (by kernel_rfl) ?_ _
              have PR : Pair W w6 p u (k + 1) := ⟨D1, j1, pw1, ho1⟩
              clear j1 pw1 ho1
              go_wp2
              go_roundw
              case rel => exact ⟨k + 1, by omega, by go_num, PR⟩
              case measure => simp [intOf]; omega
          case first =>
            by_cases hk : x.kind = 1
            · as_aux_lemma =>
                have C1 := both_create h3 ho (s := x.name) hx.name
                have R1 := Lib.hid fun w (h : Both W w p u (D.create (kl x.name)).2 D [(B, .cells x.cells 30 (0, 0))]) => rboth_create h pw ho (s := x.name) hx.name
                have ST := steps_create pw h3.ok (kl x.name)
                generalize D.create (kl x.name) = r at *
                obtain ⟨r1, D1⟩ := r
                simp only at C1 R1 ST
                obtain ⟨_, b1, _, _, _, _, _, _⟩ := act_cells (h3.at (List.mem_cons_self))
                rw [hk]
                clear h3
                go_wp2_with fail
                refine C1.mono ?_
                rintro e w4 ⟨rfl, h4⟩
                clear C1 b1
                obtain ⟨_, b1, _, _, _, _, _, _⟩ := act_cells (h4.at (List.mem_cons_self))
                have R2 := R1.out w4 h4
                clear R1 h4
                go_wp2_with fail
                refine R2.mono ?_
                rintro e w5 ⟨rfl, h5⟩
                clear R2 b1
                have RE : Rel W p u k (.int .i64 r1) (.int .i64 r1) w5 := ⟨r1, D1, rfl, rfl, h5.bare, ST.1, by have := ST.2; omega⟩
                clear h5 ST
                go_wp2_with fail
                go_meet
                case rel => exact RE
            have n1 : (x.kind == 1) = false := by simpa using hk
            clear hk
            by_cases hk : x.kind = 2
            · as_aux_lemma =>
                have C1 := both_append h3 ho (s := x.name) (t := x.s) hx.name (by omega)
                have R1 := Lib.hid fun w (h : Both W w p u (D.append (kl x.name) (kl x.s)).2 D [(B, .cells x.cells 30 (0, 0))]) => rboth_append h pw ho (s := x.name) (t := x.s) hx.name (by omega)
                have ST := steps_append pw h3.ok (kl x.name) (kl x.s)
                generalize D.append (kl x.name) (kl x.s) = r at *
                obtain ⟨r1, D1⟩ := r
                simp only at C1 R1 ST
                obtain ⟨_, b1, _, b3, _, _, _, _⟩ := act_cells (h3.at (List.mem_cons_self))
                rw [hk]
                clear h3
                go_wp2_with fail
                refine C1.mono ?_
                rintro e w4 ⟨rfl, h4⟩
                clear C1 b1 b3
                obtain ⟨_, b1, _, b3, _, _, _, _⟩ := act_cells (h4.at (List.mem_cons_self))
                have R2 := R1.out w4 h4
                clear R1 h4
                go_wp2_with fail
                refine R2.mono ?_
                rintro e w5 ⟨rfl, h5⟩
                clear R2 b1 b3
                have RE : Rel W p u k (.int .i64 r1) (.int .i64 r1) w5 := ⟨r1, D1, rfl, rfl, h5.bare, ST.1, by have := ST.2; omega⟩
                clear h5 ST
                go_wp2_with fail
                go_meet
                case rel => exact RE
            have n2 : (x.kind == 2) = false := by simpa using hk
            clear hk
            by_cases hk : x.kind = 3
            · as_aux_lemma =>
                have C1 := both_read h3 ho (s := x.name) hx.name x.pos x.n hx.pos hx.n
                have R1 := Lib.hid fun w (h : Both W w p u (D.read (kl x.name) x.pos x.n).2.2 D [(B, .cells x.cells 30 (0, 0))]) => rboth_read h pw ho (s := x.name) hx.name x.pos x.n hx.pos hx.n
                have ST := steps_read pw h3.ok (kl x.name) x.pos x.n
                generalize D.read (kl x.name) x.pos x.n = r at *
                obtain ⟨rs, r1, D1⟩ := r
                simp only at C1 R1 ST
                obtain ⟨_, b1, _, _, b4, b5, _, _⟩ := act_cells (h3.at (List.mem_cons_self))
                rw [hk]
                clear h3
                go_wp2_with fail
                refine C1.mono ?_
                rintro e w4 ⟨rfl, h4⟩
                clear C1 b1 b4 b5
                obtain ⟨_, b1, _, _, b4, b5, _, _⟩ := act_cells (h4.at (List.mem_cons_self))
                have R2 := R1.out w4 h4
                clear R1 h4
                go_wp2_with fail
                refine R2.mono ?_
                rintro e w5 ⟨rfl, h5⟩
                clear R2 b1 b4 b5
                have RE : Rel W p u k (.int .i64 r1) (.int .i64 r1) w5 := ⟨r1, D1, rfl, rfl, h5.bare, ST.1, by have := ST.2; omega⟩
                clear h5 ST
                go_wp2_with fail
                go_meet
                case rel => exact RE
            have n3 : (x.kind == 3) = false := by simpa using hk
            clear hk
            by_cases hk : x.kind = 4
            · as_aux_lemma =>
                have C1 := both_sync h3 ho (s := x.name) hx.name
                have R1 := Lib.hid fun w (h : Both W w p u (D.sync (kl x.name)).2 D [(B, .cells x.cells 30 (0, 0))]) => rboth_sync h pw ho (s := x.name) hx.name
                have ST := steps_sync pw h3.ok (kl x.name)
                generalize D.sync (kl x.name) = r at *
                obtain ⟨r1, D1⟩ := r
                simp only at C1 R1 ST
                obtain ⟨_, b1, _, _, _, _, _, _⟩ := act_cells (h3.at (List.mem_cons_self))
                rw [hk]
                clear h3
                go_wp2_with fail
                refine C1.mono ?_
                rintro e w4 ⟨rfl, h4⟩
                clear C1 b1
                obtain ⟨_, b1, _, _, _, _, _, _⟩ := act_cells (h4.at (List.mem_cons_self))
                have R2 := R1.out w4 h4
                clear R1 h4
                go_wp2_with fail
                refine R2.mono ?_
                rintro e w5 ⟨rfl, h5⟩
                clear R2 b1
                have RE : Rel W p u k (.int .i64 r1) (.int .i64 r1) w5 := ⟨r1, D1, rfl, rfl, h5.bare, ST.1, by have := ST.2; omega⟩
                clear h5 ST
                go_wp2_with fail
                go_meet
                case rel => exact RE
            have n4 : (x.kind == 4) = false := by simpa using hk
            clear hk
            by_cases hk : x.kind = 5
            · as_aux_lemma =>
                have C1 := both_rename h3 ho (s := x.name) (t := x.to) hx.name hx.to
                have R1 := Lib.hid fun w (h : Both W w p u (D.rename (kl x.name) (kl x.to)).2 D [(B, .cells x.cells 30 (0, 0))]) => rboth_rename h pw ho (s := x.name) (t := x.to) hx.name hx.to
                have ST := steps_rename pw h3.ok (kl x.name) (kl x.to)
                generalize D.rename (kl x.name) (kl x.to) = r at *
                obtain ⟨r1, D1⟩ := r
                simp only at C1 R1 ST
                obtain ⟨_, b1, b2, _, _, _, _, _⟩ := act_cells (h3.at (List.mem_cons_self))
                rw [hk]
                clear h3
                go_wp2_with fail
                refine C1.mono ?_
                rintro e w4 ⟨rfl, h4⟩
                clear C1 b1 b2
                obtain ⟨_, b1, b2, _, _, _, _, _⟩ := act_cells (h4.at (List.mem_cons_self))
                have R2 := R1.out w4 h4
                clear R1 h4
                go_wp2_with fail
                refine R2.mono ?_
                rintro e w5 ⟨rfl, h5⟩
                clear R2 b1 b2
                have RE : Rel W p u k (.int .i64 r1) (.int .i64 r1) w5 := ⟨r1, D1, rfl, rfl, h5.bare, ST.1, by have := ST.2; omega⟩
                clear h5 ST
                go_wp2_with fail
                go_meet
                case rel => exact RE
            have n5 : (x.kind == 5) = false := by simpa using hk
            clear hk
            by_cases hk : x.kind = 6
            · as_aux_lemma =>
                have C1 := both_delete h3 ho (s := x.name) hx.name
                have R1 := Lib.hid fun w (h : Both W w p u (D.delete (kl x.name)).2 D [(B, .cells x.cells 30 (0, 0))]) => rboth_delete h pw ho (s := x.name) hx.name
                have ST := steps_delete pw h3.ok (kl x.name)
                generalize D.delete (kl x.name) = r at *
                obtain ⟨r1, D1⟩ := r
                simp only at C1 R1 ST
                obtain ⟨_, b1, _, _, _, _, _, _⟩ := act_cells (h3.at (List.mem_cons_self))
                rw [hk]
                clear h3
                go_wp2_with fail
                refine C1.mono ?_
                rintro e w4 ⟨rfl, h4⟩
                clear C1 b1
                obtain ⟨_, b1, _, _, _, _, _, _⟩ := act_cells (h4.at (List.mem_cons_self))
                have R2 := R1.out w4 h4
                clear R1 h4
                go_wp2_with fail
                refine R2.mono ?_
                rintro e w5 ⟨rfl, h5⟩
                clear R2 b1
                have RE : Rel W p u k (.int .i64 r1) (.int .i64 r1) w5 := ⟨r1, D1, rfl, rfl, h5.bare, ST.1, by have := ST.2; omega⟩
                clear h5 ST
                go_wp2_with fail
                go_meet
                case rel => exact RE
            have n6 : (x.kind == 6) = false := by simpa using hk
            clear hk
            by_cases hk : x.kind = 7
            · as_aux_lemma =>
                have C1 := both_arm h3 ho x.pos x.n x.b hx.b
                have R1 := Lib.hid fun w (h : Both W w p u (D.arm x.pos x.n x.b) D [(B, .cells x.cells 30 (0, 0))]) => rboth_arm h ho x.pos x.n x.b hx.b
                have ST := steps_arm D x.pos x.n x.b
                generalize D.arm x.pos x.n x.b = D1 at *
                obtain ⟨_, _, _, _, b4, b5, b6, _⟩ := act_cells (h3.at (List.mem_cons_self))
                rw [hk]
                clear h3
                go_wp2_with fail
                refine C1.mono ?_
                rintro e w4 ⟨rfl, h4⟩
                clear C1 b4 b5 b6
                obtain ⟨_, _, _, _, b4, b5, b6, _⟩ := act_cells (h4.at (List.mem_cons_self))
                have R2 := R1.out w4 h4
                clear R1 h4
                go_wp2_with fail
                refine R2.mono ?_
                rintro e w5 ⟨rfl, h5⟩
                clear R2 b4 b5 b6
                have RE : Rel W p u k (.int .i64 0) (.int .i64 0) w5 := ⟨0, D1, rfl, rfl, h5.bare, ST.1, by have := ST.2; omega⟩
                clear h5 ST
                go_wp2_with fail
                go_meet
                case rel => exact RE
            have n7 : (x.kind == 7) = false := by simpa using hk
            clear hk
            by_cases hk : x.kind = 8
            · as_aux_lemma =>
                have C1 := both_off h3
                have R1 := Lib.hid fun w (h : Both W w p u (D.offd) D [(B, .cells x.cells 30 (0, 0))]) => rboth_off h
                have ST := steps_off D
                generalize D.offd = D1 at *
                rw [hk]
                clear h3
                go_wp2_with fail
                refine C1.mono ?_
                rintro e w4 ⟨rfl, h4⟩
                clear C1
                have R2 := R1.out w4 h4
                clear R1 h4
                go_wp2_with fail
                refine R2.mono ?_
                rintro e w5 ⟨rfl, h5⟩
                clear R2
                have RE : Rel W p u k (.int .i64 0) (.int .i64 0) w5 := ⟨0, D1, rfl, rfl, h5.bare, ST.1, by have := ST.2; omega⟩
                clear h5 ST
                go_wp2_with fail
                go_meet
                case rel => exact RE
            have n8 : (x.kind == 8) = false := by simpa using hk
            clear hk
            by_cases hk : x.kind = 9
            · as_aux_lemma =>
                have C1 := both_on h3 AH.out (by omega)
                have R1 := Lib.hid fun w (h : Both W w p u (D.on x.ks) D [(B, .cells x.cells 30 (0, 0))]) => rboth_on h AH.out (by omega) KM.out
                have ST := steps_on pw x.ks
                generalize D.on x.ks = D1 at *
                obtain ⟨_, _, _, _, _, _, _, b7⟩ := act_cells (h3.at (List.mem_cons_self))
                rw [hk]
                clear h3
                go_wp2_with fail
                refine C1.mono ?_
                rintro e w4 ⟨rfl, h4⟩
                clear C1 b7
                obtain ⟨_, _, _, _, _, _, _, b7⟩ := act_cells (h4.at (List.mem_cons_self))
                have R2 := R1.out w4 h4
                clear R1 h4
                go_wp2_with fail
                refine R2.mono ?_
                rintro e w5 ⟨rfl, h5⟩
                clear R2 b7
                have RE : Rel W p u k (.int .i64 0) (.int .i64 0) w5 := ⟨0, D1, rfl, rfl, h5.bare, ST.1, by have := ST.2; omega⟩
                clear h5 ST
                go_wp2_with fail
                go_meet
                case rel => exact RE
            have n9 : (x.kind == 9) = false := by simpa using hk
            clear hk
            by_cases hk : x.kind = 10
            · as_aux_lemma =>
                obtain ⟨bb, bw⟩ : ∃ bb : UInt8, IntKind.u8.wrap x.b = (bb.toNat : Int) := ⟨_, byte_wrap x.b⟩
                have C1 := Lib.hid fun w (h : Both W w p u D D [(B, .cells x.cells 30 (0, 0))]) => both_flip h (s := x.name) hx.name x.pos hx.pos bb
                have R1 := Lib.hid fun w (h : Both W w p u (D.flip (kl x.name) x.pos bb).2 D [(B, .cells x.cells 30 (0, 0))]) => rboth_flip h (s := x.name) x.pos hx.pos bb
                have ST := steps_flip pw (kl x.name) x.pos bb
                generalize D.flip (kl x.name) x.pos bb = r at *
                obtain ⟨r1, D1⟩ := r
                simp only at C1 R1 ST
                rw [hk]
                go_upto_region 46 with (fail)
                refine wp_region_held (S := fun y => y.heap[B]? = some (.cells x.cells 30 (0, 0))) (by kernel_rfl) ?_
                change wpAnyH _ _ _ _ _ _ _ _ w3.drew
                have h3 := h3.drew
                generalize w3.drew = wf at h3 ⊢
                have i0 := h3.at (List.mem_cons_self)
                refine held_take 0 (.pointer (some ⟨p, 0, none⟩)) rfl (by kernel_rfl) (by kernel_rfl) (by kernel_rfl) (fun _ _ _ h => h) (Or.inl ⟨by rfl, fun x j => by go_simp⟩) i0 (fun K hK => ?_)
                go_simp
                refine hK _ _ ?_
                clear hK K
                refine held_take 1 (.pointer (some ⟨B, 1, none⟩)) rfl (by kernel_rfl) (by kernel_rfl) (by kernel_rfl) (fun _ _ _ h => h) (Or.inl ⟨by rfl, fun x j => by go_simp⟩) i0 (fun K hK => ?_)
                go_simp
                refine hK _ _ ?_
                clear hK K
                refine held_take 2 (.string x.name) rfl (by kernel_rfl) (by kernel_rfl) (by kernel_rfl) (fun _ _ _ h => h) (Or.inl ⟨by rfl, fun x j => by have c0 := (act_cells j).2.1; go_simp⟩) i0 (fun K hK => ?_)
                go_simp
                refine hK _ _ ?_
                clear hK K
                refine held_take 3 (.pointer (some ⟨B, 4, none⟩)) rfl (by kernel_rfl) (by kernel_rfl) (by kernel_rfl) (fun _ _ _ h => h) (Or.inl ⟨by rfl, fun x j => by go_simp⟩) i0 (fun K hK => ?_)
                go_simp
                refine hK _ _ ?_
                clear hK K
                refine held_take 4 (.int .i64 x.pos) rfl (by kernel_rfl) (by kernel_rfl) (by kernel_rfl) (fun _ _ _ h => h) (Or.inl ⟨by rfl, fun x j => by have c0 := (act_cells j).2.2.2.2.1; go_simp⟩) i0 (fun K hK => ?_)
                go_simp
                refine hK _ _ ?_
                clear hK K
                refine held_take 5 (.pointer (some ⟨B, 6, none⟩)) rfl (by kernel_rfl) (by kernel_rfl) (by kernel_rfl) (fun _ _ _ h => h) (Or.inl ⟨by rfl, fun x j => by go_simp⟩) i0 (fun K hK => ?_)
                go_simp
                refine hK _ _ ?_
                clear hK K
                refine held_take 6 (.int .i64 x.b) rfl (by kernel_rfl) (by kernel_rfl) (by kernel_rfl) (fun _ _ _ h => h) (Or.inl ⟨by rfl, fun x j => by have c0 := (act_cells j).2.2.2.2.2.2.1; go_simp⟩) i0 (fun K hK => ?_)
                go_simp
                refine hK _ _ ?_
                clear hK K
                refine held_take 7 (.int .u8 (bb.toNat : Int)) rfl (by kernel_rfl) (by kernel_rfl) (by kernel_rfl) (fun _ _ _ h => h) (Or.inl ⟨by rfl, fun x j => by go_simp⟩) i0 (fun K hK => ?_)
                go_simp
                refine hK _ _ ?_
                clear hK K
                refine held_take 9 (.pointer (some ⟨u, 0, none⟩)) rfl (by kernel_rfl) (by kernel_rfl) (by kernel_rfl) (fun _ _ _ h => h) (Or.inl ⟨by rfl, fun x j => by go_simp⟩) i0 (fun K hK => ?_)
                go_simp
                refine hK _ _ ?_
                clear hK K
                refine held_take 10 (.pointer (some ⟨B, 1, none⟩)) rfl (by kernel_rfl) (by kernel_rfl) (by kernel_rfl) (fun _ _ _ h => h) (Or.inl ⟨by rfl, fun x j => by go_simp⟩) i0 (fun K hK => ?_)
                go_simp
                refine hK _ _ ?_
                clear hK K
                refine held_take 11 (.string x.name) rfl (by kernel_rfl) (by kernel_rfl) (by kernel_rfl) (fun _ _ _ h => h) (Or.inl ⟨by rfl, fun x j => by have c0 := (act_cells j).2.1; go_simp⟩) i0 (fun K hK => ?_)
                go_simp
                refine hK _ _ ?_
                clear hK K
                refine held_take 12 (.pointer (some ⟨B, 4, none⟩)) rfl (by kernel_rfl) (by kernel_rfl) (by kernel_rfl) (fun _ _ _ h => h) (Or.inl ⟨by rfl, fun x j => by go_simp⟩) i0 (fun K hK => ?_)
                go_simp
                refine hK _ _ ?_
                clear hK K
                refine held_take 13 (.int .i64 x.pos) rfl (by kernel_rfl) (by kernel_rfl) (by kernel_rfl) (fun _ _ _ h => h) (Or.inl ⟨by rfl, fun x j => by have c0 := (act_cells j).2.2.2.2.1; go_simp⟩) i0 (fun K hK => ?_)
                go_simp
                refine hK _ _ ?_
                clear hK K
                refine held_take 14 (.pointer (some ⟨B, 6, none⟩)) rfl (by kernel_rfl) (by kernel_rfl) (by kernel_rfl) (fun _ _ _ h => h) (Or.inl ⟨by rfl, fun x j => by go_simp⟩) i0 (fun K hK => ?_)
                go_simp
                refine hK _ _ ?_
                clear hK K
                refine held_take 15 (.int .i64 x.b) rfl (by kernel_rfl) (by kernel_rfl) (by kernel_rfl) (fun _ _ _ h => h) (Or.inl ⟨by rfl, fun x j => by have c0 := (act_cells j).2.2.2.2.2.2.1; go_simp⟩) i0 (fun K hK => ?_)
                go_simp
                refine hK _ _ ?_
                clear hK K
                refine held_take 16 (.int .u8 (bb.toNat : Int)) rfl (by kernel_rfl) (by kernel_rfl) (by kernel_rfl) (fun _ _ _ h => h) (Or.inl ⟨by rfl, fun x j => by go_simp⟩) i0 (fun K hK => ?_)
                go_simp
                refine hK _ _ ?_
                clear hK K
                refine held_one 8 (by kernel_rfl) (fun K hK => wpOp_in rfl rfl ?_)
                go_simp
                refine (C1.out _ h3).mono ?_
                rintro e w4 ⟨rfl, h4⟩
                have i1 := h4.at (List.mem_cons_self)
                refine hK _ _ i1 ?_
                clear hK K C1 h3 i0
                refine held_one 17 (by kernel_rfl) (fun K hK => wpOp_in rfl rfl ?_)
                go_simp
                refine (R1.out _ h4).mono ?_
                rintro e w5 ⟨rfl, h5⟩
                have i2 := h5.at (List.mem_cons_self)
                refine hK _ _ i2 ?_
                clear hK K R1 h4 i1
                refine held_take 18 (.bool false) rfl (by kernel_rfl) (by kernel_rfl) (by kernel_rfl) (fun _ _ _ h => h) (Or.inl ⟨by rfl, fun x j => by go_simp⟩) i2 (fun K hK => ?_)
                go_simp
                refine hK _ _ ?_
                clear hK K
                refine wpAnyH_done (by kernel_rfl) ?_ _
                clear i2 bw
                have RE : Rel W p u k (.int .i64 0) (.int .i64 0) w5 := ⟨0, D1, rfl, rfl, h5.bare, ST.1, by have := ST.2; omega⟩
                clear h5 ST
                go_wp2_with fail
                go_meet
                case rel => exact RE
            have n10 : (x.kind == 10) = false := by simpa using hk
            clear hk
            by_cases hk : x.kind = 11
            · as_aux_lemma =>
                have C1 := both_lay h3 (s := x.name) (t := x.s) hx.name (by omega)
                have R1 := Lib.hid fun w (h : Both W w p u (D.lay (kl x.name) (kl x.s)).2 D [(B, .cells x.cells 30 (0, 0))]) => rboth_lay h (s := x.name) (t := x.s) hx.name (by omega)
                have ST := steps_lay pw (kl x.name) (kl x.s)
                generalize D.lay (kl x.name) (kl x.s) = r at *
                obtain ⟨r1, D1⟩ := r
                simp only at C1 R1 ST
                obtain ⟨_, b1, _, b3, _, _, _, _⟩ := act_cells (h3.at (List.mem_cons_self))
                rw [hk]
                clear h3
                go_wp2_with fail
                refine C1.mono ?_
                rintro e w4 ⟨rfl, h4⟩
                clear C1 b1 b3
                obtain ⟨_, b1, _, b3, _, _, _, _⟩ := act_cells (h4.at (List.mem_cons_self))
                have R2 := R1.out w4 h4
                clear R1 h4
                go_wp2_with fail
                refine R2.mono ?_
                rintro e w5 ⟨rfl, h5⟩
                clear R2 b1 b3
                have RE : Rel W p u k (.int .i64 r1) (.int .i64 r1) w5 := ⟨r1, D1, rfl, rfl, h5.bare, ST.1, by have := ST.2; omega⟩
                clear h5 ST
                go_wp2_with fail
                go_meet
                case rel => exact RE
            have n11 : (x.kind == 11) = false := by simpa using hk
            clear hk
            have ST := steps_none pw
            have RE : Rel W p u k (.int .i64 0) (.int .i64 0) w3 := ⟨0, D, rfl, rfl, h3.bare, ST.1, by have := ST.2; omega⟩
            clear h3 ST
            go_wp2_with fail
            go_meet
            case rel => exact RE
      · have l2 : ¬ (k : Int) < 150 := by omega
        have PX : Ex W p u wr := ⟨k, PR⟩
        clear PR
        go_wp2
        go_meet
        case rel => exact PX
    · have l1 : ¬ (k : Int) < (xs.length : Int) := by omega
      have PX : Ex W p u wr := ⟨k, PR⟩
      clear PR
      go_wp2
      go_meet
      case rel => exact PX
theorem own : ownKnob Try.prog.godebug = none := by kernel_rfl

theorem laidOut : laidOutB Try.prog = true := by kernel_rfl
set_option maxRecDepth 100000 in
theorem lifted (os : Os) (started : os.Started) (H : Type) (enc : TypeId × Value → H) :
    ReturnsInHanded {} Try.checked os 3 .any (Rows.plankExactSpec.pre6 enc Try.prog Try.f3 Rows.plankExactRow.domain false) (Rows.plankExactSpec.post enc Try.prog Try.f3 false true false false) := by
  refine returnsInHanded_of_change (C := Try.checked) own started (by kernel_rfl) Try.func3
    (ChangeSpec.witness6 (enc := enc) (C := Try.checked) false ⟨#[], #[.int .i64 0, .slice none 0 0], []⟩ 8 (by kernel_rfl) (by kernel_rfl) (by kernel_rfl) (by kernel_rfl)) ?_
  intro W base args ds gs before hval0 hW hcnd _
  have hval : ∀ (j : Nat) t v, Try.f3.params[j]? = some t → args[j]? = some v → Value.okWide Try.prog W .any base t v := hval0
  have hW' := hW
  obtain ⟨p, q, hA0, hV, rfl, hfz, hnd⟩ := hW
  have hA : DataW.TrodAll enc Try.prog W 0 (fun _ => true) true Try.f3.params.toList args.toList ds p := hA0
  rw [Try.params3] at hA hval
  obtain ⟨v0, vs0, d0, ds0, p0, q0, hargs, rfl, rfl, h0, r0⟩ := trodAll_cons hA
  obtain ⟨v1, vs1, d1, ds1, p1, q1, rfl, rfl, rfl, h1, r1⟩ := trodAll_cons r0
  obtain ⟨rfl, rfl, rfl⟩ := trodAll_nil r1
  obtain rfl : args = #[v0, v1] := by cases args; simp_all
  obtain ⟨rfl, rfl⟩ := trodVars_none hV
  obtain ⟨a0, rfl, rfl, rfl, w0⟩ := open_int Try.underlying3 (hval 0 3 v0 rfl rfl) h0
  obtain ⟨b1, len1, cap1, rfl⟩ := okWide_slice Try.underlying22 (hval 1 22 v1 rfl rfl)
  have hlt1 : ∀ x ∈ p1, x.block < W.heap.size := fun x hx => by simpa using hW'.lt x (by simp [hx])
  have hS1 : ∃ l : List Ac, ActsAt W (.slice b1 len1 cap1) l ∧ l.length ≤ 9223372036854775807 := by
    obtain ⟨fuel, hf⟩ := h1
    exact open_acts hf
  obtain ⟨a1, w1, y1⟩ := hS1
  clear hA0 hval0
  simp only [List.append_nil] at hW'
  refine (walk a0 a1 w0 w1 y1 W).mono fun e W' ⟨he, bel⟩ => ?_
  subst he
  exact ⟨_, rfl, _, _, _, [], _, [], hW', trodAll_mk1 (shut_bool Try.underlying4 _), (trodAll_cons_mk (shut_int Try.underlying3 w0) (trodAll_cons_mk (Below.trod laidOut (by kernel_rfl) (of_decide_eq_true (by kernel_rfl)) h1 bel hlt1) trodAll_mk0)), rfl, bel.frame _, fun h => by cases h⟩

theorem over : Rows.plankExactRow.holds Try.pinned (OpenSpec.ofChange Rows.plankExactSpec) :=
  OpenClaim.holds_of_wide 3 Try.f3 rfl rfl rfl rfl rfl rfl rfl ⟨rfl, rfl, rfl, rfl, rfl⟩ rfl rfl rfl rfl rfl (by kernel_rfl) Try.func3 (by kernel_rfl)
    (of_decide_eq_true (by kernel_rfl)) (by unfold Func.isWrapper; first | (rw [if_pos (by decide +kernel)]; kernel_rfl) | (rw [if_neg (by decide +kernel)]; exact ⟨rfl, rfl⟩))
    (fun os started H enc _ => lifted os started H enc)

theorem proved : Rows.PlankExactSaid :=
  over
#print axioms proved
end Go.Proofs.Ytkhlcmponfkccaa.PkLawExact
