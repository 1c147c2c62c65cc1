/-
  Contract of Params of package field.
-/
import Derived.Test.YtdimjeajgmlfkaaDoorFiPar
namespace Go.Proofs.YtdimjeajgmlfkaaDoor.Fi
open Go.RowKit Go.PlainAid
open Hx
set_option linter.unusedVariables false
set_option maxRecDepth 20000
set_option linter.unusedSimpArgs false

theorem size_str (w : World) : (sizeOf 9).run Tryd.prog w = .ok 1 w := size_of (by kernel_rfl) w
/-- parts[1:] -/
theorem cut_tail (w : World) (g n cap : Nat) (hk : 1 ≤ n) (hc : n ≤ cap) :
    (Instr.sliceAt 44 (.slice (some ⟨g, 0, none⟩) n cap) (some (.int .i64 1)) none none).run Tryd.prog w = .ok (.slice (some ⟨g, if cap = 1 then 0 else 1, none⟩) (n - 1) (cap - 1)) w := by
  have h1 : (1 : Int) ≤ (n : Int) := by omega
  have hz := size_str w
  by_cases h2 : cap = 1
  · subst h2
    obtain rfl : n = 1 := by omega
    simp [Instr.sliceAt, Instr.slice, run_underlying Tryd.underlying44, Instr.sliceBounds, run_sliceBound, hz]
  · simp [Instr.sliceAt, Instr.slice, run_underlying Tryd.underlying44, Instr.sliceBounds, run_sliceBound, hz, h1, h2, add_at]
theorem own_shape2 {w : World} {B e sz n : Nat} {v : Value} {xs : List Value} (h : w.ownsRow B e sz v n xs) (hn : 0 < n) : ∃ g cap, v = .slice (some ⟨g, 0, none⟩) n cap ∧ n ≤ cap := by
  rcases h.2 with ⟨rfl, h0⟩ | ⟨g, cap, cur, rfl, _, _, hc, _⟩
  · omega
  · exact ⟨g, cap, rfl, hc⟩
theorem tail_strs {w : World} {g n cap : Nat} {s : ByteArray} {ss : List ByteArray} (h : StrsAt w (.slice (some ⟨g, 0, none⟩) n cap) (s :: ss)) : StrsAt w (.slice (some ⟨g, if cap = 1 then 0 else 1, none⟩) (n - 1) (cap - 1)) ss := by
  obtain ⟨rfl, hc⟩ := h.len
  refine ⟨_, cap - 1, by rw [List.length_cons, Nat.add_sub_cancel], by simp at hc; omega, fun j t ht => ⟨_, rfl, ?_, ?_⟩⟩
  · obtain ⟨a, e, ha, _⟩ := h.at (j := 0) (s := s) rfl
    injection e with e
    subst e
    exact ha
  · have hlt := (List.getElem?_eq_some_iff.1 ht).1
    obtain ⟨a, e, _, hcell⟩ := h.at (j := j + 1) (s := t) (by simpa using ht)
    injection e with e
    subst e
    have h2 : ¬ cap = 1 := by simp at hc; omega
    rw [if_neg h2, add_at]
    rw [add_at] at hcell
    rw [show 1 + j = 0 + (j + 1) by omega]
    exact hcell
theorem parsF_none {q : ByteArray} {qs : List ByteArray} (acc : List Fd) (h : parF (ls q) = none) : parsF (q :: qs) acc = none := by
  rw [parsF]; rw [h]
theorem parsF_some {q : ByteArray} {qs : List ByteArray} {f : Fd} (acc : List Fd) (h : parF (ls q) = some f) : parsF (q :: qs) acc = parsF qs (acc ++ [f]) := by
  rw [parsF]; rw [h]
theorem pm_none {s : ByteArray} (h : parsF (fillF (((cutA 59 (ls s)).drop 1).map tx)) [] = none) : pmF s = ⟨⟨#[]⟩, [], 3⟩ := by unfold pmF; rw [h]
theorem pm_some {s : ByteArray} {l : List Fd} (h : parsF (fillF (((cutA 59 (ls s)).drop 1).map tx)) [] = some l) : pmF s = ⟨(((cutA 59 (ls s)).map tx)[0]?).getD ⟨#[]⟩, l, 0⟩ := by unfold pmF; rw [h]
def ParPost (p : Pm) (w : World) (e : Ending) (w' : World) : Prop := ∃ v, e = .returned (.tuple #[.string p.h, v, .int .i64 p.e]) ∧ FdsAt w' v p.list ∧ Below w.heap.size w w'
set_option maxRecDepth 200000 in
set_option maxHeartbeats 4000000 in
theorem params_any (s : ByteArray) (w : World) (hs : s.size ≤ 100000) :
    Calls Tryd.prog 30 #[.string s] w (ParPost (pmF s) w) := by
  have ct := cut_any s 59 59 (Lib.hid rfl) (by decide) (by decide) (by decide) w (by omega)
  have cb := cutA_bound 59 (ls s)
  have cn := cutQ_ne 59 (ls s).length (ls s) false [] (Nat.le_refl _)
  rw [ls_len] at cb
  have hA : ∃ p ps, (cutA 59 (ls s)).map tx = p :: ps ∧ ps = ((cutA 59 (ls s)).drop 1).map tx ∧ ps.length ≤ s.size ∧ ∀ q ∈ p :: ps, q.size ≤ s.size := by
    cases hq : cutA 59 (ls s) with
    | nil => exact absurd hq cn
    | cons a l =>
      rw [hq] at cb
      refine ⟨tx a, l.map tx, rfl, rfl, ?_, fun q hm => ?_⟩
      · have := cb.1
        rw [List.length_map]
        simp at this; omega
      · rw [← List.map_cons] at hm
        obtain ⟨b, hb, rfl⟩ := List.mem_map.1 hm
        rw [tx_size]
        exact cb.2 b hb
  obtain ⟨p, ps, h1, h2, h3, h4⟩ := hA
  have PN := pm_none (s := s)
  have PS := fun l => pm_some (s := s) (l := l)
  rw [← h2, h1] at PS
  rw [← h2] at PN
  rw [h1] at ct
  clear h1 h2 cb cn
  have HN := Lib.hid PN
  have HS := Lib.hid PS
  have HB := Lib.hid h4
  have hp4 := h4 p (by simp)
  clear PN PS h4
  obtain ⟨i0, hi, hz0, hz1, hz2⟩ := info_parts infoFd
  go_enter Tryd.func30, Tryd.ntmps30
  go_wp2_with fail
  refine ct.mono ?_
  rintro e w1 ⟨v1, rfl, own1, F1⟩
  obtain ⟨g, cap, rfl, hcap⟩ := own_shape2 own1 (by simp)
  have V1 := owns_strs own1
  have hcut := fun w => cut_tail w g (p :: ps).length cap (by simp) hcap
  rw [List.length_cons, Nat.add_sub_cancel] at hcut
  have T1 := tail_strs V1
  rw [List.length_cons, Nat.add_sub_cancel] at T1
  obtain ⟨a, ea, ha, hcell⟩ := V1.at (j := 0) (s := p) rfl
  injection ea with ea
  subst ea
  rw [show (⟨g, 0, none⟩ : Addr).add 0 = ⟨g, 0, none⟩ from rfl] at hcell
  clear own1 V1 ct
  rw [List.length_cons] at hcap ⊢
  have fl := filled_any (w := w1) T1 (by omega)
  clear T1
  have hql := fillF_len ps ps.length
  rw [List.take_length] at hql
  have hqm : ∀ q ∈ fillF ps, q.size ≤ s.size := fun q hq => HB.out q (by
    have := (List.mem_filter.1 (show q ∈ ps.filter _ from hq)).1
    exact List.mem_cons_of_mem _ this)
  have HQM := Lib.hid hqm
  clear hqm
  generalize fillF ps = qs at HN HS fl hql HQM
  generalize ps.length = pl at hcut hcap hql h3 fl ⊢
  generalize (if cap = 1 then 0 else 1) = off at hcut fl
  generalize cap - 1 = cc at hcut fl
  generalize hR : parsF qs [] = R at HN HS
  have HR := Lib.hid hR
  clear hR
  have hcl := fun w => clone_any p w (by omega)
  go_wp2_with fail
  refine fl.mono ?_
  rintro e w2 ⟨v2, rfl, own2, F2⟩
  have hcell2 : w2.cell? ⟨g, 0, none⟩ = some (.string p) := by
    rw [World.cell?_of_block (w := w1) (F2.block _ ha)]; exact hcell
  have hg2 : g < w2.heap.size := Nat.lt_of_lt_of_le ha F2.size
  have F12 := F1.trans (F2.mono F1.size)
  clear fl F1 F2 hcell ha
  obtain ⟨n, hn⟩ : ∃ n, n = qs.length := ⟨_, rfl⟩
  rw [← hn] at own2 hql
  have HNN := Lib.hid hn
  obtain ⟨b2, c2, rfl⟩ := own_shape own2
  have V2 := Lib.hid (show StrsAt w2 (.slice b2 n c2) qs by rw [hn] at own2 ⊢; exact owns_strs own2)
  clear own2 hn
  have own0 : w2.ownsRow w2.heap.size 23 2 (.slice none 0 0) 0 [] := World.ownsRow_nil _ _ _ _
  have H12 := Lib.hid F12
  clear F12
  go_wp2
  go_loopw [6, 17] (fun v i wr => ∃ (k m : Nat) (acc : List Fd) (b : Option Addr) (c : Nat), k ≤ n ∧ m ≤ k ∧ i = .int .i64 k ∧ v = .slice b m c ∧ Hid (m = acc.length) ∧ wr.ownsRow w2.heap.size 23 2 (.slice b m c) m (fdsL acc) ∧ Below w2.heap.size w2 wr ∧ Hid (parsF (qs.drop k) acc = R)) (fun _ i _ => n - (intOf i).toNat)
  case atStart => exact ⟨0, 0, [], none, 0, Nat.zero_le _, Nat.le_refl _, rfl, rfl, Lib.hid rfl, own0, Below.refl _ _, Lib.hid (by rw [List.drop_zero]; exact HR.out)⟩
  case round =>
    clear own0 hcut
    obtain ⟨k, m, acc, b, c, hk, hm, rfl, rfl, HM, own, bel, INV⟩ := hrel
    have hN := bel.size
    by_cases hlt : k < n
    · obtain ⟨q, hq⟩ : ∃ q, qs[k]? = some q := ⟨qs[k]'(by have := HNN.out; omega), List.getElem?_eq_getElem _⟩
      obtain ⟨a2, rfl, ha2, hcellq⟩ := (V2.out.below bel).at hq
      have hqs := HQM.out q (List.mem_of_getElem? hq)
      have hd : qs.drop k = q :: qs.drop (k + 1) := by
        have hk2 := (List.getElem?_eq_some_iff.1 hq).1
        rw [List.drop_eq_getElem_cons hk2]
        congr 1
        exact (List.getElem?_eq_some_iff.1 hq).2
      have l1 : (k : Int) < (n : Int) := by omega
      have pa := fun w => paramOf_any q w (by omega)
      unfold PaPost at pa
      cases hp : parF (ls q) with
      | none =>
        have hRn : R = none := by rw [← INV.out, hd, parsF_none acc hp]
        obtain ⟨p1, p2⟩ := pa_none hp
        rw [p1, p2] at pa
        have Q := Lib.hid (HN.out hRn)
        clear hq hd p1 p2 hp INV hRn
        go_wp2_with fail
        refine (pa _).mono ?_
        rintro e w3 ⟨rfl, G⟩
        have bel3 := bel.trans (G.mono bel.size)
        clear pa bel G own hcellq
        obtain ⟨w4, S4, A4, G4, Z4⟩ := fd_keep w3 Fd.zero
        have bel4 := bel3.trans (G4.mono bel3.size)
        clear A4 G4 Z4 bel3
        go_wp2_with (refine wpl_store S4 rfl rfl rfl rfl rfl ?_)
        go_ret3
        exact ⟨_, by rw [Q.out]; rfl, by rw [Q.out]; exact none_fds _, H12.out.trans (bel4.mono H12.out.size)⟩
      | some f =>
        obtain ⟨p1, p2⟩ := pa_some hp
        rw [p1, p2] at pa
        have I2 := Lib.hid (show parsF (qs.drop (k + 1)) (acc ++ [f]) = R by rw [← INV.out, hd, parsF_some acc hp])
        clear hq hd p1 p2 hp INV
        go_wp2_with fail
        refine (pa _).mono ?_
        rintro e w3 ⟨rfl, G⟩
        have bel3 := bel.trans (G.mono bel.size)
        have own3 := owns_below own G
        clear pa bel G own hcellq
        obtain ⟨w4, S4, A4, G4, Z4⟩ := fd_keep w3 f
        have bel4 := bel3.trans (G4.mono bel3.size)
        have own4 := owns_below own3 G4
        have L4 := fd_loads A4
        have hN4 := bel4.size
        clear A4 G4 Z4 bel3 own3
        go_upto_region 7 with (refine wpl_store S4 rfl rfl rfl rfl rfl ?_)
        clear S4
        generalize w3.heap.size = B at L4 ⊢
        go_upto_region 9 with (fail)
        go_upto_region 10 with (first | refine wpl_load L4 rfl rfl rfl ?_ | refine wpl_build (fdV_size f) rfl rfl rfl ?_ | (at_builtin; refine wpList_append_own _ rfl _ _ 35 rfl w2.heap.size 23 i0 (.agg #[.string ⟨#[]⟩, .string ⟨#[]⟩]) 2 32 Tryd.underlying35 hi hz0 hz1 hz2 rfl (by decide) _ _ _ rfl (own4.alloc _) ⟨w4.heap.size, 0, none⟩ 1 1 (fdL f) rfl ?c0 ?c1 (fdL_one f) ?c3 ?c4 ?c5 ?_))
        case c0 => rfl
        case c1 => exact new_fd w4 f
        case c3 => unfold maxLen; omega
        case c4 => omega
        case c5 => simp; omega
        intro v' w5 own5 hgrow _
        have own6 : w5.ownsRow w2.heap.size 23 2 v' (m + 1) (fdsL (acc ++ [f])) := by
          rw [fdsL_snoc]
          exact own5
        have bel6 := (bel4.alloc hN4 (.cells (fdV f) 23)).grown hgrow (by simp; omega) (fun j hj => (own4.lt j hj).1)
        clear own5 own4 bel4 hgrow L4
        obtain ⟨b', c', rfl⟩ := own_shape own6
        go_wp2
        go_roundw
        case rel => exact ⟨k + 1, m + 1, acc ++ [f], b', c', by omega, by omega, by go_num, rfl, Lib.hid (by rw [List.length_append, ← HM.out]; rfl), own6, bel6, I2⟩
        case measure => simp [intOf]; omega
    · have l1 : ¬ (k : Int) < (n : Int) := by omega
      have hRs : R = some acc := by rw [← INV.out, List.drop_of_length_le (by have := HNN.out; omega)]; rfl
      have Q := Lib.hid (HS.out acc hRs)
      have hcell3 : wr.cell? ⟨g, 0, none⟩ = some (.string p) := by
        rw [World.cell?_of_block (w := w2) (bel.block _ hg2)]; exact hcell2
      have V3 : FdsAt wr (.slice b m c) acc := by
        have := HM.out
        subst this
        exact owns_fds own
      have n1 : (0 : Int) < (pl : Int) + 1 := by omega
      clear INV hRs own hcell2
      go_wp2_with fail
      refine (hcl _).mono ?_
      rintro e w3 ⟨rfl, G⟩
      have bel3 := bel.trans (G.mono bel.size)
      have V4 := V3.below G
      clear hcl V3 bel G
      go_wp2
      go_ret3
      exact ⟨_, by rw [Q.out]; rfl, by rw [Q.out]; exact V4, H12.out.trans (bel3.mono H12.out.size)⟩
end Go.Proofs.YtdimjeajgmlfkaaDoor.Fi
