/-
  Contracts of filled, valuesOf and Get of package field.
-/
import Derived.Test.YtdimjeajgmlfkaaDoorFiSuf
import Derived.Test.YtdimjeajgmlfkaaDoorFiTrim2
import Derived.Test.YtdimjeajgmlfkaaDoorFiSplit
namespace Go.Proofs.YtdimjeajgmlfkaaDoor.Fi
open Go.RowKit Go.PlainAid
open Hx
set_option linter.unusedVariables false
set_option maxRecDepth 20000
set_option linter.unusedSimpArgs false

theorem StrsAt.at {w : World} {base : Option Addr} {n cap : Nat} {ss : List ByteArray} (h : StrsAt w (.slice base n cap) ss) {j : Nat} {s : ByteArray} (hj : ss[j]? = some s) : ∃ a : Addr, base = some a ∧ a.block < w.heap.size ∧ w.cell? (a.add j) = some (.string s) := by
  obtain ⟨base', cap', e, hl, hc⟩ := h.is
  injection e with e1 e2 e3
  subst e1
  exact hc j s hj
theorem StrsAt.len {w : World} {base : Option Addr} {n cap : Nat} {ss : List ByteArray} (h : StrsAt w (.slice base n cap) ss) : n = ss.length ∧ n ≤ cap := by
  obtain ⟨base', cap', e, hl, hc⟩ := h.is
  injection e with e1 e2 e3
  subst e2 e3
  exact ⟨rfl, hl⟩
theorem new_str (w : World) (s : ByteArray) : ∀ j u, ([Value.string s] : List Value)[j]? = some u → (w.alloc (.cells #[.string s] 9)).cell? ((⟨w.heap.size, 0, none⟩ : Addr).add j) = some u := by
  intro j u hj
  rw [add_at, Nat.zero_add, (At.new w _ _).cell]
  simpa using hj
/-- a row of texts that a call makes -/
def OwnS (w w' : World) (v : Value) (ss : List ByteArray) : Prop := w'.ownsRow w.heap.size 9 1 v ss.length (strsL ss) ∧ Below w.heap.size w w'
theorem OwnS.at {w w' : World} {v : Value} {ss : List ByteArray} (h : OwnS w w' v ss) : StrsAt w' v ss := owns_strs h.1
def fillF (ss : List ByteArray) : List ByteArray := ss.filter fun s => decide (s.size ≠ 0)
theorem fillF_yes {ss : List ByteArray} {k : Nat} {s : ByteArray} (h : ss[k]? = some s) (h0 : 0 < s.size) : fillF (ss.take (k + 1)) = fillF (ss.take k) ++ [s] := by
  unfold fillF
  rw [List.take_add_one, h, List.filter_append]
  have e : decide (s.size ≠ 0) = true := decide_eq_true (by omega)
  congr 1
  simp only [Option.toList_some, List.filter_cons, e, List.filter_nil, if_true]
theorem fillF_no {ss : List ByteArray} {k : Nat} {s : ByteArray} (h : ss[k]? = some s) (h0 : s.size = 0) : fillF (ss.take (k + 1)) = fillF (ss.take k) := by
  unfold fillF
  have e : decide (s.size ≠ 0) = false := decide_eq_false (fun c => c h0)
  rw [List.take_add_one, h, List.filter_append]
  simp only [Option.toList_some, List.filter_cons, e, List.filter_nil, Bool.false_eq_true, if_false, List.append_nil]
theorem fillF_len (ss : List ByteArray) (k : Nat) : (fillF (ss.take k)).length ≤ k := by
  unfold fillF
  refine Nat.le_trans (List.length_filter_le _ _) ?_
  rw [List.length_take]; omega
set_option maxHeartbeats 1000000 in
theorem filled_any {w : World} {v : Value} {ss : List ByteArray} (hv : StrsAt w v ss) (hl : ss.length ≤ 1099511627776) :
    Calls Tryd.prog 44 #[v] w fun e w' => ∃ v', e = .returned v' ∧ OwnS w w' v' (fillF ss) := by
  obtain ⟨i0, hi, hz0, hz1, hz2⟩ := info_parts infoS
  obtain ⟨base, cap, rfl, _, _⟩ := hv.is
  have own0 : w.ownsRow w.heap.size 9 1 (.slice none 0 0) 0 [] := World.ownsRow_nil _ _ _ _
  have bel0 := Below.refl w.heap.size w
  have HV := Lib.hid hv
  clear hv
  obtain ⟨n, hn⟩ : ∃ n, n = ss.length := ⟨_, rfl⟩
  rw [← hn] at HV hl ⊢
  have HN := Lib.hid hn
  clear hn
  go_enter Tryd.func44, Tryd.ntmps44
  go_wp2
  go_loopw [3, 8] (fun v i wr => ∃ (k m : Nat) (b : Option Addr) (c : Nat), k ≤ n ∧ m ≤ k ∧ i = .int .i64 k ∧ v = .slice b m c ∧ Hid (m = (fillF (ss.take k)).length) ∧ wr.ownsRow w.heap.size 9 1 (.slice b m c) m (strsL (fillF (ss.take k))) ∧ Below w.heap.size w wr) (fun _ i _ => n - (intOf i).toNat)
  case atStart => exact ⟨0, 0, none, 0, Nat.zero_le _, Nat.le_refl _, rfl, rfl, Lib.hid rfl, own0, bel0⟩
  case round =>
    clear own0 bel0
    obtain ⟨k, m, b, c, hk, hm, rfl, rfl, HM, own, bel⟩ := hrel
    by_cases hlt : k < n
    · obtain ⟨s, hs⟩ : ∃ s, ss[k]? = some s := ⟨ss[k]'(by have := HN.out; omega), List.getElem?_eq_getElem _⟩
      obtain ⟨a, rfl, ha, hcell⟩ := (HV.out.below bel).at hs
      have HS := Lib.hid hs
      have l1 : (k : Int) < (n : Int) := by omega
      have hN := bel.size
      by_cases h0 : s.size = 0
      · have e1 := toList_nil s h0
        have E := Lib.hid (fillF_no hs h0)
        clear hs h0
        go_wp2
        go_roundw
        case rel => exact ⟨k + 1, m, b, c, by omega, by omega, by go_num, rfl, Lib.hid (by rw [E.out, ← HM.out]), by rw [E.out]; exact own, bel⟩
        case measure => simp [intOf]; omega
      · have e1 := toList_ne s (by omega)
        have e2 := toList_ne' s (by omega)
        have E := Lib.hid (fillF_yes hs (by omega))
        clear hs h0
        go_upto_region 7 with (at_builtin; refine wpList_append_own _ rfl _ _ 44 rfl w.heap.size 9 i0 (.string ⟨#[]⟩) 1 16 Tryd.underlying44 hi hz0 hz1 hz2 rfl (by decide) _ _ _ rfl (own.alloc _) ⟨wr.heap.size, 0, none⟩ 1 1 [.string s] rfl ?c0 ?c1 ?c2 ?c3 ?c4 ?c5 ?_)
        case c0 => rfl
        case c1 => exact new_str wr s
        case c2 => intro u hu; simp at hu; subst hu; rfl
        case c3 => unfold maxLen; omega
        case c4 => omega
        case c5 => simp; omega
        intro v' w4 own4 hgrow _
        have own5 : w4.ownsRow w.heap.size 9 1 v' (m + 1) (strsL (fillF (ss.take (k + 1)))) := by
          rw [E.out, strsL_snoc]
          exact own4
        have bel5 := (bel.alloc hN (.cells #[.string s] 9)).grown hgrow (by simp; omega) (fun j hj => (own.lt j hj).1)
        clear own4 own hgrow hcell
        obtain ⟨b', c', rfl⟩ := own_shape own5
        go_wp2
        go_roundw
        case rel => exact ⟨k + 1, m + 1, b', c', by omega, by omega, by go_num, rfl, Lib.hid (by rw [E.out, List.length_append, ← HM.out]; rfl), own5, bel5⟩
        case measure => simp [intOf]; omega
    · have l1 : ¬ (k : Int) < (n : Int) := by omega
      have E := Lib.hid (show ss.take k = ss from List.take_of_length_le (by have := HN.out; omega))
      go_wp2
      go_ret
      rw [E.out] at own HM
      have hm2 := HM.out
      subst hm2
      exact ⟨_, rfl, own, bel⟩

/-! ### the values of a name -/
def valsF (name : List UInt8) (xs : List Fd) : List ByteArray := (xs.filter fun f => sameL (ls f.n) name).map Fd.v
theorem valsF_yes {name : List UInt8} {xs : List Fd} {k : Nat} {x : Fd} (h : xs[k]? = some x) (h0 : sameL (ls x.n) name = true) : valsF name (xs.take (k + 1)) = valsF name (xs.take k) ++ [x.v] := by
  unfold valsF
  rw [List.take_add_one, h, List.filter_append, List.map_append]
  simp only [Option.toList_some, List.filter_cons, h0, List.filter_nil, if_true, List.map_cons, List.map_nil]
theorem valsF_no {name : List UInt8} {xs : List Fd} {k : Nat} {x : Fd} (h : xs[k]? = some x) (h0 : sameL (ls x.n) name = false) : valsF name (xs.take (k + 1)) = valsF name (xs.take k) := by
  unfold valsF
  rw [List.take_add_one, h, List.filter_append, List.map_append]
  simp only [Option.toList_some, List.filter_cons, h0, List.filter_nil, Bool.false_eq_true, if_false, List.map_nil, List.append_nil]
theorem valsF_le (name : List UInt8) (xs : List Fd) : (valsF name xs).length ≤ xs.length := by
  unfold valsF
  rw [List.length_map]
  exact List.length_filter_le _ _
theorem valsF_mem {name : List UInt8} {xs : List Fd} {s : ByteArray} (h : s ∈ valsF name xs) : ∃ x ∈ xs, s = x.v := by
  unfold valsF at h
  obtain ⟨x, hx, rfl⟩ := List.mem_map.1 h
  exact ⟨x, (List.mem_filter.1 hx).1, rfl⟩
/-- fields whose texts are within the reach -/
def Reach (xs : List Fd) : Prop := ∀ x ∈ xs, x.n.size ≤ 140737488355328 ∧ x.v.size ≤ 140737488355328
set_option maxHeartbeats 2000000 in
theorem valuesOf_any {w : World} {v : Value} {xs : List Fd} (name : ByteArray) (hv : FdsAt w v xs) (hl : xs.length ≤ 1000000) (hz : name.size ≤ 140737488355328) (hr : Reach xs) :
    Calls Tryd.prog 42 #[.string name, v] w fun e w' => ∃ v', e = .returned v' ∧ OwnS w w' v' (valsF (ls name) xs) := by
  obtain ⟨i0, hi, hz0, hz1, hz2⟩ := info_parts infoS
  obtain ⟨base, cap, rfl, _, _⟩ := hv.is
  have own0 : w.ownsRow w.heap.size 9 1 (.slice none 0 0) 0 [] := World.ownsRow_nil _ _ _ _
  have bel0 := Below.refl w.heap.size w
  have HV := Lib.hid hv
  have HR := Lib.hid hr
  clear hv hr
  obtain ⟨n, hn⟩ : ∃ n, n = xs.length := ⟨_, rfl⟩
  rw [← hn] at HV hl ⊢
  have HN := Lib.hid hn
  clear hn
  go_enter Tryd.func42, Tryd.ntmps42
  go_wp2
  go_loopw [5, 10] (fun v i wr => ∃ (k m : Nat) (b : Option Addr) (c : Nat), k ≤ n ∧ m ≤ k ∧ i = .int .i64 k ∧ v = .slice b m c ∧ Hid (m = (valsF (ls name) (xs.take k)).length) ∧ wr.ownsRow w.heap.size 9 1 (.slice b m c) m (strsL (valsF (ls name) (xs.take k))) ∧ Below w.heap.size w wr) (fun _ i _ => n - (intOf i).toNat)
  case atStart => exact ⟨0, 0, none, 0, Nat.zero_le _, Nat.le_refl _, rfl, rfl, Lib.hid rfl, own0, bel0⟩
  case round =>
    clear own0 bel0
    obtain ⟨k, m, b, c, hk, hm, rfl, rfl, HM, own, bel⟩ := hrel
    by_cases hlt : k < n
    · obtain ⟨x, hx⟩ : ∃ x, xs[k]? = some x := ⟨xs[k]'(by have := HN.out; omega), List.getElem?_eq_getElem _⟩
      obtain ⟨a, rfl, ha, L1, _, _⟩ := (HV.out.below bel).loads hx
      obtain ⟨r1, r2⟩ := HR.out x (List.mem_of_getElem? hx)
      have l1 : (k : Int) < (n : Int) := by omega
      obtain ⟨w2, S2, A2, G2, Z2⟩ := fd_keep wr x
      have bel2 := bel.trans (G2.mono bel.size)
      have own2 := owns_below own G2
      clear own bel G2 Z2
      have c0 : w2.cell? ⟨wr.heap.size, 0, none⟩ = some (.string x.n) := A2.cell 0
      have sm := same_any x.n name w2 (by omega) (by omega)
      generalize hB : wr.heap.size = B at S2 A2 c0
      cases hs : sameL (ls x.n) (ls name) with
      | false =>
        have E := Lib.hid (valsF_no hx hs)
        rw [hs] at sm
        clear hx hs
        go_wp2_with (first | refine wpl_load L1 rfl rfl rfl ?_ | refine wpl_store S2 rfl rfl rfl (by rw [← hB]; rfl) rfl ?_)
        refine sm.mono ?_
        rintro e w3 ⟨rfl, G3⟩
        have own3 := owns_below own2 G3
        have bel3 := bel2.trans (G3.mono bel2.size)
        clear sm S2 A2 c0 L1 own2 bel2 G3
        go_wp2
        go_roundw
        case rel => exact ⟨k + 1, m, b, c, by omega, by omega, by go_num, rfl, Lib.hid (by rw [E.out, ← HM.out]), by rw [E.out]; exact own3, bel3⟩
        case measure => simp [intOf]; omega
      | true =>
        have E := Lib.hid (valsF_yes hx hs)
        rw [hs] at sm
        clear hx hs
        go_wp2_with (first | refine wpl_load L1 rfl rfl rfl ?_ | refine wpl_store S2 rfl rfl rfl (by rw [← hB]; rfl) rfl ?_)
        refine sm.mono ?_
        rintro e w3 ⟨rfl, G3⟩
        have own3 := owns_below own2 G3
        have bel3 := bel2.trans (G3.mono bel2.size)
        have A3 := A2.old G3
        have c1 : w3.cell? ⟨B, 1, none⟩ = some (.string x.v) := A3.cell 1
        clear sm S2 A2 c0 L1 own2 bel2 G3 A3
        have hN := bel3.size
        go_upto_region 7 with (at_builtin; refine wpList_append_own _ rfl _ _ 44 rfl w.heap.size 9 i0 (.string ⟨#[]⟩) 1 16 Tryd.underlying44 hi hz0 hz1 hz2 rfl (by decide) _ _ _ rfl (own3.alloc _) ⟨w3.heap.size, 0, none⟩ 1 1 [.string x.v] rfl ?c0 ?c1 ?c2 ?c3 ?c4 ?c5 ?_)
        case c0 => rfl
        case c1 => exact new_str w3 x.v
        case c2 => intro u hu; simp at hu; subst hu; rfl
        case c3 => unfold maxLen; omega
        case c4 => omega
        case c5 => simp; omega
        intro v' w4 own4 hgrow _
        have own5 : w4.ownsRow w.heap.size 9 1 v' (m + 1) (strsL (valsF (ls name) (xs.take (k + 1)))) := by
          rw [E.out, strsL_snoc]
          exact own4
        have bel5 := (bel3.alloc hN (.cells #[.string x.v] 9)).grown hgrow (by simp; omega) (fun j hj => (own3.lt j hj).1)
        clear own4 own3 hgrow c1 bel3
        obtain ⟨b', c', rfl⟩ := own_shape own5
        go_wp2
        go_roundw
        case rel => exact ⟨k + 1, m + 1, b', c', by omega, by omega, by go_num, rfl, Lib.hid (by rw [E.out, List.length_append, ← HM.out]; rfl), own5, bel5⟩
        case measure => simp [intOf]; omega
    · have l1 : ¬ (k : Int) < (n : Int) := by omega
      have E := Lib.hid (show xs.take k = xs from List.take_of_length_le (by have := HN.out; omega))
      go_wp2
      go_ret
      rw [E.out] at own HM
      have hm2 := HM.out
      subst hm2
      exact ⟨_, rfl, own, bel⟩

/-! ### Get -/
def getS (name : List UInt8) (xs : List Fd) : ByteArray := ((valsF name xs)[0]?).getD ⟨#[]⟩
def getN (name : List UInt8) (xs : List Fd) : Nat := (valsF name xs).length
theorem getS_le {name : List UInt8} {xs : List Fd} (h : Reach xs) : (getS name xs).size ≤ 140737488355328 := by
  unfold getS
  cases hq : (valsF name xs)[0]? with
  | none => exact Nat.zero_le _
  | some s =>
    obtain ⟨x, hx, rfl⟩ := valsF_mem (List.mem_of_getElem? hq)
    exact (h x hx).2
set_option maxHeartbeats 1000000 in
theorem get_any {w : World} {v : Value} {xs : List Fd} (name : ByteArray) (hv : FdsAt w v xs) (hl : xs.length ≤ 1000000) (hz : name.size ≤ 140737488355328) (hr : Reach xs) :
    Calls Tryd.prog 21 #[v, .string name] w fun e w' => e = .returned (.tuple #[.string (getS (ls name) xs), .int .i64 (getN (ls name) xs)]) ∧ Below w.heap.size w w' := by
  have r1 := valuesOf_any name hv hl hz hr
  have gl := getS_le (name := ls name) hr
  have nl := valsF_le (ls name) xs
  have HR := Lib.hid hr
  obtain ⟨base, cap, rfl, _, _⟩ := hv.is
  clear hv hr
  unfold getN
  cases hc : valsF (ls name) xs with
  | nil =>
    have e1 : getS (ls name) xs = ⟨#[]⟩ := by unfold getS; rw [hc]; rfl
    rw [hc] at r1
    rw [e1]
    clear e1 gl nl hc
    go_enter Tryd.func21, Tryd.ntmps21
    go_wp2_with fail
    refine r1.mono ?_
    rintro e w1 ⟨v', rfl, own, G⟩
    clear r1
    obtain ⟨b', c', rfl⟩ := own_shape own
    go_wp2
    go_ret2
    exact ⟨rfl, G⟩
  | cons s l =>
    have e1 : getS (ls name) xs = s := by unfold getS; rw [hc]; rfl
    rw [hc] at r1
    rw [e1] at gl ⊢
    obtain ⟨n, hn⟩ : ∃ n, n = (s :: l).length := ⟨_, rfl⟩
    have cl := fun w => clone_any s w gl
    have n0 : 0 < n := by rw [hn]; simp
    rw [hc, ← hn] at nl
    rw [← hn]
    have HN := Lib.hid hn
    have g : ((n : Int) == 0) = false := by rw [beq_eq_false_iff_ne]; omega
    have n1 : (0 : Int) < (n : Int) := by omega
    clear e1 hc hn
    go_enter Tryd.func21, Tryd.ntmps21
    go_wp2_with fail
    refine r1.mono ?_
    rintro e w1 ⟨v', rfl, own, G⟩
    clear r1
    rw [← HN.out] at own
    obtain ⟨b', c', rfl⟩ := own_shape own
    have V : StrsAt w1 (.slice b' n c') (s :: l) := by
      rw [HN.out] at own ⊢
      exact owns_strs own
    obtain ⟨a, rfl, ha, hcell⟩ := V.at (j := 0) (s := s) rfl
    rw [show a.add 0 = a by unfold Addr.add; rw [if_pos rfl]] at hcell
    clear V own
    go_wp2_with fail
    refine (cl _).mono ?_
    rintro e w2 ⟨rfl, G2⟩
    clear cl
    replace G := G.trans (G2.mono G.size)
    go_wp2
    go_ret2
    exact ⟨rfl, G⟩
end Go.Proofs.YtdimjeajgmlfkaaDoor.Fi
