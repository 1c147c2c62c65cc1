/-
  Contracts of Elements and Closes of the document's answers.
-/
import Derived.Test.YtbngfphiachnoaaGreatDoorFiRefC
import Derived.Test.YtbngfphiachnoaaGreatDoorFiRefG
import Derived.Test.YtbngfphiachnoaaGreatDoorSet7
namespace Go.Proofs.YtbngfphiachnoaaGreatDoor.Fi
open Go.RowKit Go.PlainAid
open Hx
set_option linter.unusedVariables false
set_option maxRecDepth 20000
set_option linter.unusedSimpArgs false

theorem elems_yes {name : List UInt8} {xs : List Fd} {k : Nat} {x : Fd} (h : xs[k]? = some x) (h0 : sameL (ls x.n) name = true) : elemsF name (xs.take (k + 1)) = elemsF name (xs.take k) ++ elsF x.v := by
  unfold elemsF; rw [valsF_yes h h0]; simp
theorem elems_no {name : List UInt8} {xs : List Fd} {k : Nat} {x : Fd} (h : xs[k]? = some x) (h0 : sameL (ls x.n) name = false) : elemsF name (xs.take (k + 1)) = elemsF name (xs.take k) := by
  unfold elemsF; rw [valsF_no h h0]
theorem fillF_all (ps : List ByteArray) (p : Nat) (h : ps.length ≤ p) : fillF (ps.take p) = fillF ps := by rw [List.take_of_length_le h]
set_option maxRecDepth 200000 in
set_option maxHeartbeats 8000000 in
theorem refElements_any {w : World} {v : Value} {xs : List Fd} (name : ByteArray) (hv : FdsAt w v xs) (hz : name.size ≤ 100000) (hs : Short xs) :
    Calls Tryz.prog 61 #[v, .string name] w fun e w' => ∃ v', e = .returned v' ∧ OwnS w w' v' (elemsF (ls name) xs) := by
  have hl := hs.len
  obtain ⟨iS, hiS, hS0, hS1, hS2⟩ := info_parts infoS
  obtain ⟨base0, cap0, rfl, _, _⟩ := hv.is
  have HV := Lib.hid hv
  have HSH := Lib.hid hs
  clear hv hs
  obtain ⟨n, hn⟩ : ∃ n, n = xs.length := ⟨_, rfl⟩
  rw [← hn] at HV hl ⊢
  have HNX := Lib.hid hn
  clear hn
  have lo := fun w => refLow_any name w (by omega)
  generalize hLN : tx (low (ls name)) = LN at lo
  have HLN := Lib.hid hLN
  clear hLN
  have F1 : Below w.heap.size w (w.alloc (.cells #[] 9)) := (Below.refl _ _).alloc (Nat.le_refl _) _
  have O1 : (w.alloc (.cells #[] 9)).ownsRow w.heap.size 9 1 (.slice (some ⟨w.heap.size, 0, none⟩) 0 0) 0 [] := World.ownsRow_made w #[] 0 (Nat.le_refl _) (Nat.zero_le _) rfl
  go_enter Tryz.func61, Tryz.ntmps61
  go_wp2
  go_loopw [5, 6] (fun o i wr => ∃ (k m g c : Nat), k ≤ n ∧ m ≤ k * 100001 ∧ i = .int .i64 k ∧ o = .slice (some ⟨g, 0, none⟩) m c ∧ Hid (m = (elemsF (ls name) (xs.take k)).length) ∧ wr.ownsRow w.heap.size 9 1 (.slice (some ⟨g, 0, none⟩) m c) m (strsL (elemsF (ls name) (xs.take k))) ∧ Below w.heap.size w wr) (fun _ i _ => n - (intOf i).toNat)
  case atStart => exact ⟨0, 0, _, _, Nat.zero_le _, Nat.zero_le _, rfl, rfl, Lib.hid rfl, O1, F1⟩
  case round =>
    clear F1 O1
    obtain ⟨k, m, g, c, hk, hm, rfl, rfl, HM, own, bel⟩ := hrel
    have hN := bel.size
    by_cases hlt : k < n
    · obtain ⟨x, hx⟩ : ∃ x, xs[k]? = some x := ⟨xs[k]'(by have := HNX.out; omega), List.getElem?_eq_getElem _⟩
      obtain ⟨a, rfl, ha, _, c0, c1⟩ := (HV.out.below bel).loads hx
      have rn := HSH.out.n x (List.mem_of_getElem? hx)
      have rv := HSH.out.v x (List.mem_of_getElem? hx)
      have l1 : (k : Int) < (n : Int) := by omega
      have lx := fun w => refLow_any x.n w (by omega)
      have q := low_beq x.n name
      rw [HLN.out] at q
      generalize tx (low (ls x.n)) = LX at lx q
      have C1 := Lib.hid (show ∀ w2, Below wr.heap.size wr w2 → w2.cell? { (a.add (k * 2)) with off := (a.add (k * 2)).off + 1, spot := none } = some (.string x.v) from fun w2 hb => by
        obtain ⟨a', e, _, _, _, c1'⟩ := (HV.out.below (bel.trans (hb.mono bel.size))).loads hx
        injection e with e
        subst e
        rw [add_next]
        exact c1')
      cases hs : sameL (ls x.n) (ls name) with
      | false =>
        have E := Lib.hid (elems_no hx hs)
        rw [hs] at q
        have qn : (LX.toList != LN.toList) = true := by rw [bne, q]; rfl
        clear hx hs c1 C1
        go_wp2_with fail
        refine (lx _).mono ?_
        rintro e w2 ⟨rfl, G2⟩
        clear lx c0
        go_wp2_with fail
        refine (lo _).mono ?_
        rintro e w3 ⟨rfl, G3⟩
        have G := G2.trans (G3.mono G2.size)
        have bel3 := bel.trans (G.mono bel.size)
        have own3 := owns_below own G
        clear G2 G3 G bel own lo
        go_wp2
        go_roundw
        case rel => exact ⟨k + 1, m, g, c, by omega, Nat.le_trans hm (Nat.mul_le_mul_right _ (Nat.le_succ k)), by go_num, rfl, Lib.hid (by rw [E.out]; exact HM.out), by rw [E.out]; exact own3, bel3⟩
        case measure => simp [intOf]; omega
      | true =>
        have E := Lib.hid (elems_yes hx hs)
        rw [hs] at q
        have qn : (LX.toList != LN.toList) = false := by rw [bne, q]; rfl
        clear hx hs c1
        have ct := fun w => refCut_any x.v 44 44 (Lib.hid rfl) (by decide) (by decide) (by decide) w (by omega)
        have eb := elsF_bound x.v
        have hel : elsF x.v = fillF ((cutA 44 (ls x.v)).map tx) := rfl
        rw [hel] at E
        have cb := cutA_bound 44 (ls x.v)
        rw [ls_len] at cb
        have cl : ((cutA 44 (ls x.v)).map tx).length ≤ x.v.size + 1 := by rw [List.length_map]; exact cb.1
        have cz : ∀ q ∈ (cutA 44 (ls x.v)).map tx, q.size ≤ 100000 := fun q hq => by
          obtain ⟨y, hy, rfl⟩ := List.mem_map.1 hq
          have := cb.2 y hy
          rw [tx_size]; omega
        have CZ := Lib.hid cz
        clear hel cb eb cz
        generalize (cutA 44 (ls x.v)).map tx = ps at ct E cl CZ
        generalize hEk : elemsF (ls name) (xs.take k) = Ek at HM own E
        have HEk := Lib.hid hEk
        clear hEk
        go_wp2_with fail
        refine (lx _).mono ?_
        rintro e w2 ⟨rfl, G2⟩
        clear lx c0
        go_wp2_with fail
        refine (lo _).mono ?_
        rintro e w3 ⟨rfl, G3⟩
        have G := G2.trans (G3.mono G2.size)
        have bel3 := bel.trans (G.mono bel.size)
        have own3 := owns_below own G
        have c1 := C1.out w3 G
        clear G2 G3 G bel own C1
        go_wp2_with fail
        refine (ct _).mono ?_
        rintro e w4 ⟨v4, rfl, own4, G4⟩
        have own5 := owns_below own3 G4
        have bel5 := bel3.trans (G4.mono bel3.size)
        have hg5 : g < w3.heap.size := (own3.lt g rfl).2
        clear c1 G4 own3 bel3 ct
        obtain ⟨b3, c3, rfl⟩ := own_shape own4
        obtain ⟨p, hp⟩ : ∃ p, p = ps.length := ⟨_, rfl⟩
        rw [← hp] at own4 cl
        have AP0 : Apart (.slice b3 p c3) (.slice (some ⟨g, 0, none⟩) m c) := by
          cases hq : (Value.slice b3 p c3).ownBlock with
          | none => exact .inl hq
          | some b =>
            refine .inr fun e => ?_
            rw [hq] at e
            have h2 := (own4.lt b hq).1
            have : b = g := Option.some.inj e
            omega
        have HP := Lib.hid hp
        rw [← hp]
        clear hp hg5
        go_wp2
        go_loopw [5, 8] (fun o i wq => ∃ (j mm gg cc : Nat), j ≤ p ∧ mm ≤ m + j ∧ i = .int .i64 j ∧ o = .slice (some ⟨gg, 0, none⟩) mm cc ∧ Hid (mm = (Ek ++ fillF (ps.take j)).length) ∧ wq.ownsRow w.heap.size 9 1 (.slice (some ⟨gg, 0, none⟩) mm cc) mm (strsL (Ek ++ fillF (ps.take j))) ∧ Below w.heap.size w wq ∧ wq.ownsRow w3.heap.size 9 1 (.slice b3 p c3) p (strsL ps) ∧ Apart (.slice b3 p c3) (.slice (some ⟨gg, 0, none⟩) mm cc)) (fun _ i _ => p - (intOf i).toNat)
        case atStart => exact ⟨0, m, g, c, Nat.zero_le _, Nat.le_refl _, rfl, rfl, Lib.hid (by rw [HM.out]; simp [fillF]), by simpa [fillF] using own5, bel5, own4, AP0⟩
        case round =>
          clear own5 bel5 own4 AP0
          obtain ⟨j, mm, gg, cc, hj, hmm, rfl, rfl, HMM, own, bel, ownq, AP⟩ := hrel
          by_cases hjt : j < p
          · obtain ⟨t, ht⟩ : ∃ t, ps[j]? = some t := ⟨ps[j]'(by have := HP.out; omega), List.getElem?_eq_getElem _⟩
            have V3 : StrsAt wr (.slice b3 p c3) ps := by
              have := HP.out
              rw [this] at ownq ⊢
              exact owns_strs ownq
            obtain ⟨a2, rfl, ha2, hcell2⟩ := V3.at ht
            have hts := CZ.out t (List.mem_of_getElem? ht)
            have l2 : (j : Int) < (p : Int) := by omega
            by_cases h0 : t.size = 0
            · have e1 := toList_nil t h0
              have TK := Lib.hid (fillF_no ht h0)
              clear ht V3 h0
              go_wp2
              go_roundw
              case rel => exact ⟨j + 1, mm, gg, cc, by omega, by omega, by go_num, rfl, Lib.hid (by rw [TK.out]; exact HMM.out), by rw [TK.out]; exact own, bel, ownq, AP⟩
              case measure => simp [intOf]; omega
            · have e1 := toList_ne t (by omega)
              have e2 := toList_ne' t (by omega)
              have TK := Lib.hid (fillF_yes ht (by omega))
              have hN5 := bel.size
              clear ht V3 h0
              go_wp2_with (at_builtin; refine wpList_append_lies _ rfl _ _ 22 rfl w.heap.size 9 iS (.string ⟨#[]⟩) 1 16 Tryz.underlying22 hiS hS0 hS1 hS2 rfl (by decide) _ _ _ rfl (own.alloc _) ⟨wr.heap.size, 0, none⟩ 1 1 [.string t] rfl rfl (new_str wr t) (by intro u hu; simp at hu; subst hu; rfl) (by decide) (by unfold maxLen; omega) (by omega) (by simp; omega) (wr.heap.size + 1) (by simp) ?_; intro g6 c6 w6 own7 hgrow hwhere hlt6)
              have own8 : w6.ownsRow w.heap.size 9 1 (.slice (some ⟨g6, 0, none⟩) (mm + 1) c6) (mm + 1) (strsL (Ek ++ fillF (ps.take (j + 1)))) := by
                rw [TK.out, ← List.append_assoc, strsL_snoc]
                exact own7
              have bel9 := (bel.alloc hN5 (.cells #[.string t] 9)).grown hgrow (by simp; omega) (fun j hj => (own.lt j hj).1)
              have ownq7 := (ownq.alloc (.cells #[.string t] 9)).kept hgrow AP
              have AP2 : Apart (.slice (some a2) p c3) (.slice (some ⟨g6, 0, none⟩) (mm + 1) c6) := by
                rcases hwhere with e | e
                · rcases AP with h | h
                  · exact .inl h
                  · refine .inr fun e2 => h ?_
                    have e' : (Value.slice (some ⟨gg, 0, none⟩) mm cc).ownBlock = some g6 := e
                    rw [e2, e']; rfl
                · cases hq : (Value.slice (some a2) p c3).ownBlock with
                  | none => exact .inl hq
                  | some b =>
                    refine .inr fun e2 => ?_
                    have h2 := (ownq.lt b hq).2
                    rw [hq] at e2
                    have : b = g6 := Option.some.inj e2
                    omega
              clear own7 own hgrow bel ownq AP hwhere hcell2
              go_roundw
              case rel => exact ⟨j + 1, mm + 1, g6, c6, by omega, by omega, by go_num, rfl, Lib.hid (by rw [TK.out, ← List.append_assoc, List.length_append, ← HMM.out]; rfl), own8, bel9, ownq7, AP2⟩
              case measure => simp [intOf]; omega
          · obtain rfl : j = p := by omega
            have l2 : ¬ (j : Int) < (j : Int) := by omega
            have TK := Lib.hid (show fillF (ps.take j) = fillF ps from fillF_all ps j (by have := HP.out; omega))
            go_wp2
            go_roundw
            case rel => exact ⟨k + 1, mm, gg, cc, by omega, by omega, by go_num, rfl, Lib.hid (by rw [E.out, ← TK.out]; exact HMM.out), by rw [E.out, ← TK.out]; exact own, bel⟩
            case measure => simp [intOf]; omega
    · have l1 : ¬ (k : Int) < (n : Int) := by omega
      have E := Lib.hid (show xs.take k = xs from List.take_of_length_le (by have := HNX.out; omega))
      rw [E.out] at own HM
      have hm2 := HM.out
      go_wp2
      go_ret
      subst hm2
      exact ⟨_, rfl, own, bel⟩

def ncon : ByteArray := ⟨#[99, 111, 110, 110, 101, 99, 116, 105, 111, 110]⟩
theorem con_low : low (ls ncon) = low (ls nCon) := by decide +kernel
theorem close_is (s : ByteArray) : ((tx (low (ls s))).toList == [99, 108, 111, 115, 101]) = sameL (ls s) (ls wClose) := by
  unfold sameL
  rw [ls_toList, ls_tx, show low (ls wClose) = [99, 108, 111, 115, 101] by decide +kernel]
theorem keep_is (s : ByteArray) : ((tx (low (ls s))).toList == [107, 101, 101, 112, 45, 97, 108, 105, 118, 101]) = sameL (ls s) (ls wKeep) := by
  unfold sameL
  rw [ls_toList, ls_tx, show low (ls wKeep) = [107, 101, 101, 112, 45, 97, 108, 105, 118, 101] by decide +kernel]
theorem hasF_next {word : List UInt8} {ss : List ByteArray} {k : Nat} {s : ByteArray} (hs : ss[k]? = some s) : hasF word (ss.take (k + 1)) = (hasF word (ss.take k) || sameL (ls s) word) := by
  unfold hasF
  rw [List.take_add_one, hs, List.any_append]
  simp
theorem closes_end {xs : List Fd} {minor : Int} (h : hasF (ls wClose) (elemsF (ls nCon) xs) = false) : closesF xs minor = !(decide (1 ≤ minor) || hasF (ls wKeep) (elemsF (ls nCon) xs)) := by
  unfold closesF
  rw [h, if_neg (by simp)]
  cases hasF (ls wKeep) (elemsF (ls nCon) xs) with
  | true => simp
  | false =>
    rw [if_neg (by simp), Bool.or_false]
    by_cases hm : 1 ≤ minor
    · rw [decide_eq_true hm, decide_eq_false (by omega)]; rfl
    · rw [decide_eq_false hm, decide_eq_true (by omega)]; rfl
theorem closes_yes {xs : List Fd} {minor : Int} (h : hasF (ls wClose) (elemsF (ls nCon) xs) = true) : closesF xs minor = true := by
  unfold closesF; rw [if_pos h]
set_option maxRecDepth 200000 in
set_option maxHeartbeats 8000000 in
theorem refCloses_any {w : World} {v : Value} {xs : List Fd} (minor : Int) (h2 : -9223372036854775808 ≤ minor) (h3 : minor ≤ 9223372036854775807) (hv : FdsAt w v xs) (hs : Short xs) :
    Calls Tryz.prog 31 #[v, .int .i64 minor] w fun e w' => e = .returned (.bool (closesF xs minor)) ∧ Below w.heap.size w w' := by
  have r1 : Calls Tryz.prog 61 #[v, .string ⟨#[99, 111, 110, 110, 101, 99, 116, 105, 111, 110]⟩] w fun e w' => ∃ v', e = .returned v' ∧ OwnS w w' v' (elemsF (ls nCon) xs) := by
    have := refElements_any ncon hv (by decide) hs
    rw [show elemsF (ls ncon) xs = elemsF (ls nCon) xs by unfold elemsF; rw [valsF_low con_low]] at this
    exact this
  have eb := elemsF_bound (name := ls nCon) hs
  obtain ⟨base, cap, rfl, _, _⟩ := hv.is
  have CE := Lib.hid (fun h => closes_end (xs := xs) (minor := minor) h)
  have CY := Lib.hid (fun h => closes_yes (xs := xs) (minor := minor) h)
  clear hv hs
  generalize closesF xs minor = R at CE CY ⊢
  generalize elemsF (ls nCon) xs = es at r1 eb CE CY
  have HB := Lib.hid eb.2
  have hl := eb.1
  clear eb
  obtain ⟨B0, hB0⟩ : ∃ B0, B0 = decide (1 ≤ minor) := ⟨_, rfl⟩
  rw [← hB0] at CE
  have hcs : (1 ≤ minor ∧ B0 = true) ∨ (¬ 1 ≤ minor ∧ B0 = false) := by
    by_cases h : 1 ≤ minor
    · exact .inl ⟨h, by rw [hB0, decide_eq_true h]⟩
    · exact .inr ⟨h, by rw [hB0, decide_eq_false h]⟩
  clear hB0
  obtain ⟨n, hn⟩ : ∃ n, n = es.length := ⟨_, rfl⟩
  rw [← hn] at hl
  have HN := Lib.hid hn
  clear hn
  rcases hcs with ⟨hm1, rfl⟩ | ⟨hm1, rfl⟩
  · go_enter Tryz.func31, Tryz.ntmps31
    go_wp2_with fail
    refine r1.mono ?_
    rintro e w1 ⟨v1, rfl, own, bel1⟩
    rw [← HN.out] at own
    obtain ⟨b1, c1, rfl⟩ := own_shape own
    have V := Lib.hid (show StrsAt w1 (.slice b1 n c1) es by rw [HN.out] at own ⊢; exact owns_strs own)
    have BEL1 := Lib.hid bel1
    clear r1 own bel1
    go_wp2
    clear hm1
    go_loopw [6, 7] (fun kv i wr => ∃ (k : Nat) (K : Bool), k ≤ n ∧ i = .int .i64 k ∧ kv = .bool K ∧ Hid (HasTo (ls wClose) es k) ∧ Hid (K = (true || hasF (ls wKeep) (es.take k))) ∧ Below w1.heap.size w1 wr) (fun _ i _ => n - (intOf i).toNat)
    case atStart => exact ⟨0, _, Nat.zero_le _, rfl, rfl, Lib.hid (by unfold HasTo; rfl), Lib.hid rfl, Below.refl _ _⟩
    case round =>
      obtain ⟨k, K, hk, rfl, rfl, HT, HK, bel⟩ := hrel
      have hN := bel.size
      by_cases hlt : k < n
      · obtain ⟨s, hs⟩ : ∃ s, es[k]? = some s := ⟨es[k]'(by have := HN.out; omega), List.getElem?_eq_getElem _⟩
        obtain ⟨a, rfl, ha, hcell⟩ := (V.out.below bel).at hs
        have hsz := HB.out s (List.mem_of_getElem? hs)
        have l1 : (k : Int) < (n : Int) := by omega
        have lo := fun w => refLow_any s w (by omega)
        have qc := close_is s
        have qk := keep_is s
        have NK := hasF_next (word := ls wKeep) hs
        generalize tx (low (ls s)) = L at lo qc qk
        have C1 := Lib.hid (show ∀ w2, Below wr.heap.size wr w2 → w2.cell? (a.add k) = some (.string s) from fun w2 hb => by
          rw [World.cell?_of_block (w := wr) (by rw [add_block]; exact hb.block _ ha)]; exact hcell)
        cases hq : sameL (ls s) (ls wClose) with
        | true =>
          have E := Lib.hid (CY.out (has_yes hs hq))
          rw [hq] at qc
          clear hs hq NK C1 qk
          go_wp2_with fail
          refine (lo _).mono ?_
          rintro e w2 ⟨rfl, G⟩
          clear lo hcell
          go_wp2
          go_ret
          exact ⟨by rw [E.out]; rfl, BEL1.out.trans ((bel.trans (G.mono hN)).mono BEL1.out.size)⟩
        | false =>
          have H2 := Lib.hid (HT.out.succ hs hq)
          rw [hq] at qc
          clear hs hq
          cases K with
          | true =>
            have K2 : Hid (true = (true || hasF (ls wKeep) (es.take (k + 1)))) := Lib.hid (by rw [NK, ← Bool.or_assoc, ← HK.out]; rfl)
            clear NK C1 qk
            go_wp2_with fail
            refine (lo _).mono ?_
            rintro e w2 ⟨rfl, G⟩
            have bel2 := bel.trans (G.mono hN)
            clear lo hcell G bel
            go_wp2
            go_roundw
            case rel => exact ⟨k + 1, true, by omega, by go_num, rfl, H2, K2, bel2⟩
            case measure => simp [intOf]; omega
          | false =>
            have K2 : Hid (sameL (ls s) (ls wKeep) = (true || hasF (ls wKeep) (es.take (k + 1)))) := Lib.hid (by rw [NK, ← Bool.or_assoc, ← HK.out]; rfl)
            clear NK
            go_wp2_with fail
            refine (lo _).mono ?_
            rintro e w2 ⟨rfl, G⟩
            have hcell2 := C1.out w2 G
            have bel2 := bel.trans (G.mono hN)
            clear hcell G bel C1
            cases hsk : sameL (ls s) (ls wKeep) with
            | true =>
              rw [hsk] at qk K2
              clear hsk
              go_wp2_with fail
              refine (lo _).mono ?_
              rintro e w3 ⟨rfl, G⟩
              have bel3 := bel2.trans (G.mono bel2.size)
              clear lo G bel2 hcell2
              go_wp2
              go_roundw
              case rel => exact ⟨k + 1, true, by omega, by go_num, rfl, H2, K2, bel3⟩
              case measure => simp [intOf]; omega
            | false =>
              rw [hsk] at qk K2
              clear hsk
              go_wp2_with fail
              refine (lo _).mono ?_
              rintro e w3 ⟨rfl, G⟩
              have bel3 := bel2.trans (G.mono bel2.size)
              clear lo G bel2 hcell2
              go_wp2
              go_roundw
              case rel => exact ⟨k + 1, false, by omega, by go_num, rfl, H2, K2, bel3⟩
              case measure => simp [intOf]; omega
      · have l1 : ¬ (k : Int) < (n : Int) := by omega
        have TK : es.take k = es := List.take_of_length_le (by have := HN.out; omega)
        have hT := HT.out
        have hK := HK.out
        unfold HasTo at hT
        rw [TK] at hT hK
        have E : Hid (R = !K) := Lib.hid (by rw [CE.out hT, hK])
        clear TK hT hK HT HK
        cases K with
        | true =>
          go_wp2
          go_ret
          exact ⟨by rw [E.out]; rfl, BEL1.out.trans (bel.mono BEL1.out.size)⟩
        | false =>
          go_wp2
          go_ret
          exact ⟨by rw [E.out]; rfl, BEL1.out.trans (bel.mono BEL1.out.size)⟩
  · go_enter Tryz.func31, Tryz.ntmps31
    go_wp2_with fail
    refine r1.mono ?_
    rintro e w1 ⟨v1, rfl, own, bel1⟩
    rw [← HN.out] at own
    obtain ⟨b1, c1, rfl⟩ := own_shape own
    have V := Lib.hid (show StrsAt w1 (.slice b1 n c1) es by rw [HN.out] at own ⊢; exact owns_strs own)
    have BEL1 := Lib.hid bel1
    clear r1 own bel1
    go_wp2
    have HD := Lib.hid (show decide (1 ≤ minor) = false from decide_eq_false (by omega))
    clear hm1
    go_loopw [6, 7] (fun kv i wr => ∃ (k : Nat) (K : Bool), k ≤ n ∧ i = .int .i64 k ∧ kv = .bool K ∧ Hid (HasTo (ls wClose) es k) ∧ Hid (K = (false || hasF (ls wKeep) (es.take k))) ∧ Below w1.heap.size w1 wr) (fun _ i _ => n - (intOf i).toNat)
    case atStart => exact ⟨0, _, Nat.zero_le _, rfl, rfl, Lib.hid (by unfold HasTo; rfl), Lib.hid (by rw [HD.out]; rfl), Below.refl _ _⟩
    case round =>
      obtain ⟨k, K, hk, rfl, rfl, HT, HK, bel⟩ := hrel
      have hN := bel.size
      by_cases hlt : k < n
      · obtain ⟨s, hs⟩ : ∃ s, es[k]? = some s := ⟨es[k]'(by have := HN.out; omega), List.getElem?_eq_getElem _⟩
        obtain ⟨a, rfl, ha, hcell⟩ := (V.out.below bel).at hs
        have hsz := HB.out s (List.mem_of_getElem? hs)
        have l1 : (k : Int) < (n : Int) := by omega
        have lo := fun w => refLow_any s w (by omega)
        have qc := close_is s
        have qk := keep_is s
        have NK := hasF_next (word := ls wKeep) hs
        generalize tx (low (ls s)) = L at lo qc qk
        have C1 := Lib.hid (show ∀ w2, Below wr.heap.size wr w2 → w2.cell? (a.add k) = some (.string s) from fun w2 hb => by
          rw [World.cell?_of_block (w := wr) (by rw [add_block]; exact hb.block _ ha)]; exact hcell)
        cases hq : sameL (ls s) (ls wClose) with
        | true =>
          have E := Lib.hid (CY.out (has_yes hs hq))
          rw [hq] at qc
          clear hs hq NK C1 qk
          go_wp2_with fail
          refine (lo _).mono ?_
          rintro e w2 ⟨rfl, G⟩
          clear lo hcell
          go_wp2
          go_ret
          exact ⟨by rw [E.out]; rfl, BEL1.out.trans ((bel.trans (G.mono hN)).mono BEL1.out.size)⟩
        | false =>
          have H2 := Lib.hid (HT.out.succ hs hq)
          rw [hq] at qc
          clear hs hq
          cases K with
          | true =>
            have K2 : Hid (true = (false || hasF (ls wKeep) (es.take (k + 1)))) := Lib.hid (by rw [NK, ← Bool.or_assoc, ← HK.out]; rfl)
            clear NK C1 qk
            go_wp2_with fail
            refine (lo _).mono ?_
            rintro e w2 ⟨rfl, G⟩
            have bel2 := bel.trans (G.mono hN)
            clear lo hcell G bel
            go_wp2
            go_roundw
            case rel => exact ⟨k + 1, true, by omega, by go_num, rfl, H2, K2, bel2⟩
            case measure => simp [intOf]; omega
          | false =>
            have K2 : Hid (sameL (ls s) (ls wKeep) = (false || hasF (ls wKeep) (es.take (k + 1)))) := Lib.hid (by rw [NK, ← Bool.or_assoc, ← HK.out]; rfl)
            clear NK
            go_wp2_with fail
            refine (lo _).mono ?_
            rintro e w2 ⟨rfl, G⟩
            have hcell2 := C1.out w2 G
            have bel2 := bel.trans (G.mono hN)
            clear hcell G bel C1
            cases hsk : sameL (ls s) (ls wKeep) with
            | true =>
              rw [hsk] at qk K2
              clear hsk
              go_wp2_with fail
              refine (lo _).mono ?_
              rintro e w3 ⟨rfl, G⟩
              have bel3 := bel2.trans (G.mono bel2.size)
              clear lo G bel2 hcell2
              go_wp2
              go_roundw
              case rel => exact ⟨k + 1, true, by omega, by go_num, rfl, H2, K2, bel3⟩
              case measure => simp [intOf]; omega
            | false =>
              rw [hsk] at qk K2
              clear hsk
              go_wp2_with fail
              refine (lo _).mono ?_
              rintro e w3 ⟨rfl, G⟩
              have bel3 := bel2.trans (G.mono bel2.size)
              clear lo G bel2 hcell2
              go_wp2
              go_roundw
              case rel => exact ⟨k + 1, false, by omega, by go_num, rfl, H2, K2, bel3⟩
              case measure => simp [intOf]; omega
      · have l1 : ¬ (k : Int) < (n : Int) := by omega
        have TK : es.take k = es := List.take_of_length_le (by have := HN.out; omega)
        have hT := HT.out
        have hK := HK.out
        unfold HasTo at hT
        rw [TK] at hT hK
        have E : Hid (R = !K) := Lib.hid (by rw [CE.out hT, hK])
        clear TK hT hK HT HK
        cases K with
        | true =>
          go_wp2
          go_ret
          exact ⟨by rw [E.out]; rfl, BEL1.out.trans (bel.mono BEL1.out.size)⟩
        | false =>
          go_wp2
          go_ret
          exact ⟨by rw [E.out]; rfl, BEL1.out.trans (bel.mono BEL1.out.size)⟩
end Go.Proofs.YtbngfphiachnoaaGreatDoor.Fi
