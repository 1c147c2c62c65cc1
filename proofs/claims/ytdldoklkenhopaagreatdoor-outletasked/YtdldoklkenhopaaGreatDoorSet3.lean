/-
  Contracts of fieldsFrom and Split of package field.
  Contracts of filled, valuesOf and Get of package field.
  Elements, parameters, frames in plain words: values cut at marks that aren't in quotes; how a body is framed; whether a connection ends. No program is spoken of.
  A head has at most 32 fields. No program is spoken of.
  Contract of hexa.Hex: for every text of at most 2^40 bytes it answers two digits a byte; nothing that was there is changed.
  Contract of hexa.Unhex: for every text of at most 2^40 bytes it answers the bytes of which the text is Hex, or ErrForm; nothing that was there is changed.
  Contracts of hexa.decimals, hexa.Dec and hexa.Hexnum: the digits of a number; nothing that was there is changed.
-/
import Derived.Test.YtdldoklkenhopaaGreatDoorSet2
import Derived.Test.YtdldoklkenhopaaGreatDoorSet1
import Derived.Deep.RegionHeld3
import Derived.Deep.LoopGhost
section
namespace Go.Proofs.YtdldoklkenhopaaGreatDoor.Fi
open Go.RowKit Go.PlainAid
open Hx
set_option linter.unusedVariables false
set_option maxRecDepth 20000
set_option linter.unusedSimpArgs false

theorem own_shape {w : World} {B e sz n : Nat} {v : Value} {xs : List Value} (h : w.ownsRow B e sz v n xs) : ∃ base cap, v = .slice base n cap := by
  rcases h.2 with ⟨rfl, h0⟩ | ⟨g, cap, cur, rfl, _⟩
  · subst h0; exact ⟨none, 0, rfl⟩
  · exact ⟨_, cap, rfl⟩
def FldPost (o : Out) (w : World) (e : Ending) (w' : World) : Prop := ∃ v, e = .returned (.tuple #[v, .int .i64 o.n, .int .i64 o.err]) ∧ FdsAt w' v o.list ∧ Below w.heap.size w w' ∧ ∀ b, v.ownBlock = some b → w.heap.size ≤ b
theorem fld_bad {o : Out} {er : Int} {w w' : World} (h : o = ⟨er, [], 0⟩) (hb : Below w.heap.size w w') : FldPost o w (.returned (.tuple #[.slice none 0 0, .int .i64 0, .int .i64 er])) w' := by
  subst h
  exact ⟨_, rfl, none_fds _, hb, fun b h => by simp [Value.ownBlock] at h⟩
set_option maxHeartbeats 2000000 in
theorem fieldsFrom_any (head : ByteArray) (k0 : Nat) (w : World) (hs : head.size ≤ 1099511627776) (hk0 : k0 ≤ head.size) :
    Calls Tryz.prog 55 #[.string head, .int .i64 k0] w (FldPost (fldF (decide (head.size = 4096)) ((ls head).drop k0) k0 []) w) := by
  obtain ⟨i0, hi, hz0, hz1, hz2⟩ := info_parts infoFd
  have own0 : w.ownsRow w.heap.size 26 2 (.slice none 0 0) 0 [] := World.ownsRow_nil _ _ _ _
  have bel0 := Below.refl w.heap.size w
  generalize hO : fldF (decide (head.size = 4096)) ((ls head).drop k0) k0 [] = O
  have HO := Lib.hid hO
  clear hO
  go_enter Tryz.func55, Tryz.ntmps55
  go_wp2
  go_loopw [1, 7] (fun a v wr => ∃ (k : Nat) (acc : List Fd) (base : Option Addr) (cap : Nat), k ≤ head.size ∧ a = .int .i64 k ∧ v = .slice base acc.length cap ∧ wr.ownsRow w.heap.size 26 2 (.slice base acc.length cap) acc.length (fdsL acc) ∧ Below w.heap.size w wr ∧ acc.length ≤ 32 ∧ fldF (decide (head.size = 4096)) ((ls head).drop k) k acc = O) (fun a _ _ => head.size - (intOf a).toNat)
  case atStart => exact ⟨k0, [], none, 0, hk0, rfl, rfl, own0, bel0, Nat.zero_le _, HO.out⟩
  case round =>
    clear own0 bel0 HO
    obtain ⟨k, acc, base, cap, hk, rfl, rfl, own, bel, h32, inv⟩ := hrel
    have hN := bel.size
    cases h : lineF (decide (head.size = 4096)) ((ls head).drop k) with
    | error e0 =>
      have hne := lineF_ne h
      have r1 := fun w => lineAt_err head k w hs hk h
      rw [fldF_err k acc h] at inv
      have H := Lib.hid inv.symm
      have g : (e0 != 0) = true := by rw [bne_iff_ne]; omega
      clear h hne inv
      go_wp2_with fail
      refine (r1 _).mono ?_
      rintro e w1 ⟨rfl, G⟩
      have F := bel.trans (G.mono bel.size)
      clear r1 own bel G
      go_wp2
      go_ret3
      exact fld_bad H.out F
    | ok p =>
      obtain ⟨x, r⟩ := p
      have r1 := fun w => lineAt_ok head k w hs hk h
      have hl := lineF_len h
      rw [List.length_drop, ls_len] at hl
      have hnext : (ls head).drop (k + x.length + 2) = r := by
        have e := (lineF_ok h).1
        rw [show k + x.length + 2 = k + (x.length + 2) by omega, ← List.drop_drop, e]
        rw [show x ++ 13 :: 10 :: r = (x ++ [13, 10]) ++ r by simp, List.drop_left' (by simp)]
      have HNX := Lib.hid hnext
      clear hnext
      by_cases hx : x = []
      · have t1 := tx_nil_of hx
        rw [hx] at h
        rw [fldF_end k acc h] at inv
        have H := Lib.hid inv
        subst hx
        clear h inv
        rw [show k + ([] : List UInt8).length + 2 = k + 2 by simp] at r1
        generalize tx [] = X at r1 t1
        go_wp2_with fail
        refine (r1 _).mono ?_
        rintro e w1 ⟨rfl, G⟩
        have F := bel.trans (G.mono bel.size)
        have own1 := owns_below own G
        clear r1 own bel G
        go_wp2
        go_ret3
        exact ⟨_, by rw [← H.out]; rfl, by rw [← H.out]; exact owns_fds own1, F, fun b h => (own1.lt b h).1⟩
      · obtain ⟨t1, t2⟩ := tx_ne_of hx
        have r2 := fun w => parse_any (tx x) w (by rw [tx_size]; omega)
        rw [ls_tx] at r2
        have hz : x.length + 2 + k ≤ head.size := by omega
        cases hp : parseF x with
        | none =>
          obtain ⟨p1, p2⟩ := p_none hp
          unfold ParsePost at r2
          rw [p1, p2] at r2
          rw [fldF_form k acc h hx hp] at inv
          have H := Lib.hid inv.symm
          clear h inv p1 p2 hp
          generalize tx x = X at r1 r2 t1 t2
          go_wp2_with fail
          refine (r1 _).mono ?_
          rintro e w1 ⟨rfl, G⟩
          have F := bel.trans (G.mono bel.size)
          clear r1 own bel G
          go_wp2_with fail
          refine (r2 _).mono ?_
          rintro e w2 ⟨rfl, G⟩
          replace F := F.trans (G.mono F.size)
          clear r2 G
          obtain ⟨w3, S3, A3, G3, Z3⟩ := fd_keep w2 Fd.zero
          replace F := F.trans (G3.mono F.size)
          clear A3 G3 Z3
          go_wp2_with (refine wpl_store S3 rfl rfl rfl rfl rfl ?_)
          go_ret3
          exact fld_bad H.out F
        | some f =>
          obtain ⟨p1, p2⟩ := p_some hp
          unfold ParsePost at r2
          rw [p1, p2] at r2
          clear p1 p2
          by_cases hc : acc.length = 32
          · rw [fldF_long k acc h hx hp hc] at inv
            have H := Lib.hid inv.symm
            have g : ((acc.length : Int) == 32) = true := by rw [hc]; rfl
            clear h inv hp hc
            generalize tx x = X at r1 r2 t1 t2
            go_wp2_with fail
            refine (r1 _).mono ?_
            rintro e w1 ⟨rfl, G⟩
            have F := bel.trans (G.mono bel.size)
            have own1 := owns_below own G
            clear r1 own bel G
            go_wp2_with fail
            refine (r2 _).mono ?_
            rintro e w2 ⟨rfl, G⟩
            replace F := F.trans (G.mono F.size)
            replace own1 := owns_below own1 G
            clear r2 G
            obtain ⟨w3, S3, A3, G3, Z3⟩ := fd_keep w2 f
            replace F := F.trans (G3.mono F.size)
            replace own1 := owns_below own1 G3
            clear A3 G3 Z3
            clear own1
            go_wp2_with (refine wpl_store S3 rfl rfl rfl rfl rfl ?_)
            go_ret3
            exact fld_bad H.out F
          · rw [fldF_step k acc h hx hp hc] at inv
            rw [← HNX.out] at inv
            have H := Lib.hid inv
            have g : ((acc.length : Int) == 32) = false := by rw [beq_eq_false_iff_ne]; omega
            clear h inv hp HNX
            generalize tx x = X at r1 r2 t1 t2
            go_wp2_with fail
            refine (r1 _).mono ?_
            rintro e w1 ⟨rfl, G⟩
            have F := bel.trans (G.mono bel.size)
            have own1 := owns_below own G
            clear r1 own bel G
            go_wp2_with fail
            refine (r2 _).mono ?_
            rintro e w2 ⟨rfl, G⟩
            replace F := F.trans (G.mono F.size)
            replace own1 := owns_below own1 G
            clear r2 G
            obtain ⟨w3, S3, A3, G3, Z3⟩ := fd_keep w2 f
            replace F := F.trans (G3.mono F.size)
            replace own1 := owns_below own1 G3
            have L3 := fd_loads A3
            clear A3 G3 Z3
            have hN := F.size
            go_upto_region 8 with (refine wpl_store S3 rfl rfl rfl rfl rfl ?_)
            clear S3
            generalize w2.heap.size = B at L3 ⊢
            go_upto_region 12 with (fail)
            go_upto_region 13 with (first | refine wpl_load L3 rfl rfl rfl ?_ | refine wpl_build (fdV_size f) rfl rfl rfl ?_ | (at_builtin; refine wpList_append_own _ rfl _ _ 23 rfl w.heap.size 26 i0 (.agg #[.string ⟨#[]⟩, .string ⟨#[]⟩]) 2 32 Tryz.underlying23 hi hz0 hz1 hz2 rfl (by decide) _ _ _ rfl (own1.alloc _) ⟨w3.heap.size, 0, none⟩ 1 1 (fdL f) rfl ?c0 ?c1 (fdL_one f) ?c3 ?c4 ?c5 ?_))
            case c0 => rfl
            case c1 => exact new_fd w3 f
            case c3 => unfold maxLen; omega
            case c4 => omega
            case c5 => simp; omega
            intro v' w4 own4 hgrow _
            have own5 : w4.ownsRow w.heap.size 26 2 v' (acc ++ [f]).length (fdsL (acc ++ [f])) := by
              rw [fdsL_snoc, List.length_append]
              exact own4
            have bel5 := (F.alloc F.size (.cells (fdV f) 26)).grown hgrow (by simp; omega) (fun j hj => (own1.lt j hj).1)
            clear own4 own1 F hgrow L3
            obtain ⟨base', cap', rfl⟩ := own_shape own5
            go_wp2
            go_roundw
            case rel => exact ⟨k + x.length + 2, acc ++ [f], base', cap', by omega, by go_num, rfl, own5, bel5, by rw [List.length_append]; simp; omega, H.out⟩
            case measure => simp [intOf]; omega
end Go.Proofs.YtdldoklkenhopaaGreatDoor.Fi
end

section
namespace Go.Proofs.YtdldoklkenhopaaGreatDoor.Fi
open Go.RowKit Go.PlainAid
open Hx
set_option linter.unusedVariables false
set_option maxRecDepth 20000
set_option linter.unusedSimpArgs false

theorem StrsAt.at {w : World} {base : Option Addr} {n cap : Nat} {ss : List ByteArray} (h : StrsAt w (.slice base n cap) ss) {j : Nat} {s : ByteArray} (hj : ss[j]? = some s) : ∃ a : Addr, base = some a ∧ a.block < w.heap.size ∧ w.cell? (a.add j) = some (.string s) := by
  obtain ⟨base', cap', e, hl, hc⟩ := h.is
  injection e with e1 e2 e3
  subst e1
  exact hc j s hj
theorem StrsAt.len {w : World} {base : Option Addr} {n cap : Nat} {ss : List ByteArray} (h : StrsAt w (.slice base n cap) ss) : n = ss.length ∧ n ≤ cap := by
  obtain ⟨base', cap', e, hl, hc⟩ := h.is
  injection e with e1 e2 e3
  subst e2 e3
  exact ⟨rfl, hl⟩
theorem new_str (w : World) (s : ByteArray) : ∀ j u, ([Value.string s] : List Value)[j]? = some u → (w.alloc (.cells #[.string s] 9)).cell? ((⟨w.heap.size, 0, none⟩ : Addr).add j) = some u := by
  intro j u hj
  rw [add_at, Nat.zero_add, (At.new w _ _).cell]
  simpa using hj
/-- a row of texts that a call makes -/
def OwnS (w w' : World) (v : Value) (ss : List ByteArray) : Prop := w'.ownsRow w.heap.size 9 1 v ss.length (strsL ss) ∧ Below w.heap.size w w'
theorem OwnS.at {w w' : World} {v : Value} {ss : List ByteArray} (h : OwnS w w' v ss) : StrsAt w' v ss := owns_strs h.1
def fillF (ss : List ByteArray) : List ByteArray := ss.filter fun s => decide (s.size ≠ 0)
theorem fillF_yes {ss : List ByteArray} {k : Nat} {s : ByteArray} (h : ss[k]? = some s) (h0 : 0 < s.size) : fillF (ss.take (k + 1)) = fillF (ss.take k) ++ [s] := by
  unfold fillF
  rw [List.take_add_one, h, List.filter_append]
  have e : decide (s.size ≠ 0) = true := decide_eq_true (by omega)
  congr 1
  simp only [Option.toList_some, List.filter_cons, e, List.filter_nil, if_true]
theorem fillF_no {ss : List ByteArray} {k : Nat} {s : ByteArray} (h : ss[k]? = some s) (h0 : s.size = 0) : fillF (ss.take (k + 1)) = fillF (ss.take k) := by
  unfold fillF
  have e : decide (s.size ≠ 0) = false := decide_eq_false (fun c => c h0)
  rw [List.take_add_one, h, List.filter_append]
  simp only [Option.toList_some, List.filter_cons, e, List.filter_nil, Bool.false_eq_true, if_false, List.append_nil]
theorem fillF_len (ss : List ByteArray) (k : Nat) : (fillF (ss.take k)).length ≤ k := by
  unfold fillF
  refine Nat.le_trans (List.length_filter_le _ _) ?_
  rw [List.length_take]; omega
set_option maxHeartbeats 1000000 in
theorem filled_any {w : World} {v : Value} {ss : List ByteArray} (hv : StrsAt w v ss) (hl : ss.length ≤ 1099511627776) :
    Calls Tryz.prog 89 #[v] w fun e w' => ∃ v', e = .returned v' ∧ OwnS w w' v' (fillF ss) := by
  obtain ⟨i0, hi, hz0, hz1, hz2⟩ := info_parts infoS
  obtain ⟨base, cap, rfl, _, _⟩ := hv.is
  have own0 : w.ownsRow w.heap.size 9 1 (.slice none 0 0) 0 [] := World.ownsRow_nil _ _ _ _
  have bel0 := Below.refl w.heap.size w
  have HV := Lib.hid hv
  clear hv
  obtain ⟨n, hn⟩ : ∃ n, n = ss.length := ⟨_, rfl⟩
  rw [← hn] at HV hl ⊢
  have HN := Lib.hid hn
  clear hn
  go_enter Tryz.func89, Tryz.ntmps89
  go_wp2
  go_loopw [3, 8] (fun v i wr => ∃ (k m : Nat) (b : Option Addr) (c : Nat), k ≤ n ∧ m ≤ k ∧ i = .int .i64 k ∧ v = .slice b m c ∧ Hid (m = (fillF (ss.take k)).length) ∧ wr.ownsRow w.heap.size 9 1 (.slice b m c) m (strsL (fillF (ss.take k))) ∧ Below w.heap.size w wr) (fun _ i _ => n - (intOf i).toNat)
  case atStart => exact ⟨0, 0, none, 0, Nat.zero_le _, Nat.le_refl _, rfl, rfl, Lib.hid rfl, own0, bel0⟩
  case round =>
    clear own0 bel0
    obtain ⟨k, m, b, c, hk, hm, rfl, rfl, HM, own, bel⟩ := hrel
    by_cases hlt : k < n
    · obtain ⟨s, hs⟩ : ∃ s, ss[k]? = some s := ⟨ss[k]'(by have := HN.out; omega), List.getElem?_eq_getElem _⟩
      obtain ⟨a, rfl, ha, hcell⟩ := (HV.out.below bel).at hs
      have HS := Lib.hid hs
      have l1 : (k : Int) < (n : Int) := by omega
      have hN := bel.size
      by_cases h0 : s.size = 0
      · have e1 := toList_nil s h0
        have E := Lib.hid (fillF_no hs h0)
        clear hs h0
        go_wp2
        go_roundw
        case rel => exact ⟨k + 1, m, b, c, by omega, by omega, by go_num, rfl, Lib.hid (by rw [E.out, ← HM.out]), by rw [E.out]; exact own, bel⟩
        case measure => simp [intOf]; omega
      · have e1 := toList_ne s (by omega)
        have e2 := toList_ne' s (by omega)
        have E := Lib.hid (fillF_yes hs (by omega))
        clear hs h0
        go_upto_region 7 with (at_builtin; refine wpList_append_own _ rfl _ _ 43 rfl w.heap.size 9 i0 (.string ⟨#[]⟩) 1 16 Tryz.underlying43 hi hz0 hz1 hz2 rfl (by decide) _ _ _ rfl (own.alloc _) ⟨wr.heap.size, 0, none⟩ 1 1 [.string s] rfl ?c0 ?c1 ?c2 ?c3 ?c4 ?c5 ?_)
        case c0 => rfl
        case c1 => exact new_str wr s
        case c2 => intro u hu; simp at hu; subst hu; rfl
        case c3 => unfold maxLen; omega
        case c4 => omega
        case c5 => simp; omega
        intro v' w4 own4 hgrow _
        have own5 : w4.ownsRow w.heap.size 9 1 v' (m + 1) (strsL (fillF (ss.take (k + 1)))) := by
          rw [E.out, strsL_snoc]
          exact own4
        have bel5 := (bel.alloc hN (.cells #[.string s] 9)).grown hgrow (by simp; omega) (fun j hj => (own.lt j hj).1)
        clear own4 own hgrow hcell
        obtain ⟨b', c', rfl⟩ := own_shape own5
        go_wp2
        go_roundw
        case rel => exact ⟨k + 1, m + 1, b', c', by omega, by omega, by go_num, rfl, Lib.hid (by rw [E.out, List.length_append, ← HM.out]; rfl), own5, bel5⟩
        case measure => simp [intOf]; omega
    · have l1 : ¬ (k : Int) < (n : Int) := by omega
      have E := Lib.hid (show ss.take k = ss from List.take_of_length_le (by have := HN.out; omega))
      go_wp2
      go_ret
      rw [E.out] at own HM
      have hm2 := HM.out
      subst hm2
      exact ⟨_, rfl, own, bel⟩

/-! ### the values of a name -/
def valsF (name : List UInt8) (xs : List Fd) : List ByteArray := (xs.filter fun f => sameL (ls f.n) name).map Fd.v
theorem valsF_yes {name : List UInt8} {xs : List Fd} {k : Nat} {x : Fd} (h : xs[k]? = some x) (h0 : sameL (ls x.n) name = true) : valsF name (xs.take (k + 1)) = valsF name (xs.take k) ++ [x.v] := by
  unfold valsF
  rw [List.take_add_one, h, List.filter_append, List.map_append]
  simp only [Option.toList_some, List.filter_cons, h0, List.filter_nil, if_true, List.map_cons, List.map_nil]
theorem valsF_no {name : List UInt8} {xs : List Fd} {k : Nat} {x : Fd} (h : xs[k]? = some x) (h0 : sameL (ls x.n) name = false) : valsF name (xs.take (k + 1)) = valsF name (xs.take k) := by
  unfold valsF
  rw [List.take_add_one, h, List.filter_append, List.map_append]
  simp only [Option.toList_some, List.filter_cons, h0, List.filter_nil, Bool.false_eq_true, if_false, List.map_nil, List.append_nil]
theorem valsF_le (name : List UInt8) (xs : List Fd) : (valsF name xs).length ≤ xs.length := by
  unfold valsF
  rw [List.length_map]
  exact List.length_filter_le _ _
theorem valsF_mem {name : List UInt8} {xs : List Fd} {s : ByteArray} (h : s ∈ valsF name xs) : ∃ x ∈ xs, s = x.v := by
  unfold valsF at h
  obtain ⟨x, hx, rfl⟩ := List.mem_map.1 h
  exact ⟨x, (List.mem_filter.1 hx).1, rfl⟩
/-- fields whose texts are within the reach -/
def Reach (xs : List Fd) : Prop := ∀ x ∈ xs, x.n.size ≤ 140737488355328 ∧ x.v.size ≤ 140737488355328
set_option maxHeartbeats 2000000 in
theorem valuesOf_any {w : World} {v : Value} {xs : List Fd} (name : ByteArray) (hv : FdsAt w v xs) (hl : xs.length ≤ 1000000) (hz : name.size ≤ 140737488355328) (hr : Reach xs) :
    Calls Tryz.prog 13 #[.string name, v] w fun e w' => ∃ v', e = .returned v' ∧ OwnS w w' v' (valsF (ls name) xs) := by
  obtain ⟨i0, hi, hz0, hz1, hz2⟩ := info_parts infoS
  obtain ⟨base, cap, rfl, _, _⟩ := hv.is
  have own0 : w.ownsRow w.heap.size 9 1 (.slice none 0 0) 0 [] := World.ownsRow_nil _ _ _ _
  have bel0 := Below.refl w.heap.size w
  have HV := Lib.hid hv
  have HR := Lib.hid hr
  clear hv hr
  obtain ⟨n, hn⟩ : ∃ n, n = xs.length := ⟨_, rfl⟩
  rw [← hn] at HV hl ⊢
  have HN := Lib.hid hn
  clear hn
  go_enter Tryz.func13, Tryz.ntmps13
  go_wp2
  go_loopw [5, 10] (fun v i wr => ∃ (k m : Nat) (b : Option Addr) (c : Nat), k ≤ n ∧ m ≤ k ∧ i = .int .i64 k ∧ v = .slice b m c ∧ Hid (m = (valsF (ls name) (xs.take k)).length) ∧ wr.ownsRow w.heap.size 9 1 (.slice b m c) m (strsL (valsF (ls name) (xs.take k))) ∧ Below w.heap.size w wr) (fun _ i _ => n - (intOf i).toNat)
  case atStart => exact ⟨0, 0, none, 0, Nat.zero_le _, Nat.le_refl _, rfl, rfl, Lib.hid rfl, own0, bel0⟩
  case round =>
    clear own0 bel0
    obtain ⟨k, m, b, c, hk, hm, rfl, rfl, HM, own, bel⟩ := hrel
    by_cases hlt : k < n
    · obtain ⟨x, hx⟩ : ∃ x, xs[k]? = some x := ⟨xs[k]'(by have := HN.out; omega), List.getElem?_eq_getElem _⟩
      obtain ⟨a, rfl, ha, L1, _, _⟩ := (HV.out.below bel).loads hx
      obtain ⟨r1, r2⟩ := HR.out x (List.mem_of_getElem? hx)
      have l1 : (k : Int) < (n : Int) := by omega
      obtain ⟨w2, S2, A2, G2, Z2⟩ := fd_keep wr x
      have bel2 := bel.trans (G2.mono bel.size)
      have own2 := owns_below own G2
      clear own bel G2 Z2
      have c0 : w2.cell? ⟨wr.heap.size, 0, none⟩ = some (.string x.n) := A2.cell 0
      have sm := same_any x.n name w2 (by omega) (by omega)
      generalize hB : wr.heap.size = B at S2 A2 c0
      cases hs : sameL (ls x.n) (ls name) with
      | false =>
        have E := Lib.hid (valsF_no hx hs)
        rw [hs] at sm
        clear hx hs
        go_wp2_with (first | refine wpl_load L1 rfl rfl rfl ?_ | refine wpl_store S2 rfl rfl rfl (by rw [← hB]; rfl) rfl ?_)
        refine sm.mono ?_
        rintro e w3 ⟨rfl, G3⟩
        have own3 := owns_below own2 G3
        have bel3 := bel2.trans (G3.mono bel2.size)
        clear sm S2 A2 c0 L1 own2 bel2 G3
        go_wp2
        go_roundw
        case rel => exact ⟨k + 1, m, b, c, by omega, by omega, by go_num, rfl, Lib.hid (by rw [E.out, ← HM.out]), by rw [E.out]; exact own3, bel3⟩
        case measure => simp [intOf]; omega
      | true =>
        have E := Lib.hid (valsF_yes hx hs)
        rw [hs] at sm
        clear hx hs
        go_wp2_with (first | refine wpl_load L1 rfl rfl rfl ?_ | refine wpl_store S2 rfl rfl rfl (by rw [← hB]; rfl) rfl ?_)
        refine sm.mono ?_
        rintro e w3 ⟨rfl, G3⟩
        have own3 := owns_below own2 G3
        have bel3 := bel2.trans (G3.mono bel2.size)
        have A3 := A2.old G3
        have c1 : w3.cell? ⟨B, 1, none⟩ = some (.string x.v) := A3.cell 1
        clear sm S2 A2 c0 L1 own2 bel2 G3 A3
        have hN := bel3.size
        go_upto_region 7 with (at_builtin; refine wpList_append_own _ rfl _ _ 43 rfl w.heap.size 9 i0 (.string ⟨#[]⟩) 1 16 Tryz.underlying43 hi hz0 hz1 hz2 rfl (by decide) _ _ _ rfl (own3.alloc _) ⟨w3.heap.size, 0, none⟩ 1 1 [.string x.v] rfl ?c0 ?c1 ?c2 ?c3 ?c4 ?c5 ?_)
        case c0 => rfl
        case c1 => exact new_str w3 x.v
        case c2 => intro u hu; simp at hu; subst hu; rfl
        case c3 => unfold maxLen; omega
        case c4 => omega
        case c5 => simp; omega
        intro v' w4 own4 hgrow _
        have own5 : w4.ownsRow w.heap.size 9 1 v' (m + 1) (strsL (valsF (ls name) (xs.take (k + 1)))) := by
          rw [E.out, strsL_snoc]
          exact own4
        have bel5 := (bel3.alloc hN (.cells #[.string x.v] 9)).grown hgrow (by simp; omega) (fun j hj => (own3.lt j hj).1)
        clear own4 own3 hgrow c1 bel3
        obtain ⟨b', c', rfl⟩ := own_shape own5
        go_wp2
        go_roundw
        case rel => exact ⟨k + 1, m + 1, b', c', by omega, by omega, by go_num, rfl, Lib.hid (by rw [E.out, List.length_append, ← HM.out]; rfl), own5, bel5⟩
        case measure => simp [intOf]; omega
    · have l1 : ¬ (k : Int) < (n : Int) := by omega
      have E := Lib.hid (show xs.take k = xs from List.take_of_length_le (by have := HN.out; omega))
      go_wp2
      go_ret
      rw [E.out] at own HM
      have hm2 := HM.out
      subst hm2
      exact ⟨_, rfl, own, bel⟩

/-! ### Get -/
def getS (name : List UInt8) (xs : List Fd) : ByteArray := ((valsF name xs)[0]?).getD ⟨#[]⟩
def getN (name : List UInt8) (xs : List Fd) : Nat := (valsF name xs).length
theorem getS_le {name : List UInt8} {xs : List Fd} (h : Reach xs) : (getS name xs).size ≤ 140737488355328 := by
  unfold getS
  cases hq : (valsF name xs)[0]? with
  | none => exact Nat.zero_le _
  | some s =>
    obtain ⟨x, hx, rfl⟩ := valsF_mem (List.mem_of_getElem? hq)
    exact (h x hx).2
set_option maxHeartbeats 1000000 in
theorem get_any {w : World} {v : Value} {xs : List Fd} (name : ByteArray) (hv : FdsAt w v xs) (hl : xs.length ≤ 1000000) (hz : name.size ≤ 140737488355328) (hr : Reach xs) :
    Calls Tryz.prog 5 #[v, .string name] w fun e w' => e = .returned (.tuple #[.string (getS (ls name) xs), .int .i64 (getN (ls name) xs)]) ∧ Below w.heap.size w w' := by
  have r1 := valuesOf_any name hv hl hz hr
  have gl := getS_le (name := ls name) hr
  have nl := valsF_le (ls name) xs
  have HR := Lib.hid hr
  obtain ⟨base, cap, rfl, _, _⟩ := hv.is
  clear hv hr
  unfold getN
  cases hc : valsF (ls name) xs with
  | nil =>
    have e1 : getS (ls name) xs = ⟨#[]⟩ := by unfold getS; rw [hc]; rfl
    rw [hc] at r1
    rw [e1]
    clear e1 gl nl hc
    go_enter Tryz.func5, Tryz.ntmps5
    go_wp2_with fail
    refine r1.mono ?_
    rintro e w1 ⟨v', rfl, own, G⟩
    clear r1
    obtain ⟨b', c', rfl⟩ := own_shape own
    go_wp2
    go_ret2
    exact ⟨rfl, G⟩
  | cons s l =>
    have e1 : getS (ls name) xs = s := by unfold getS; rw [hc]; rfl
    rw [hc] at r1
    rw [e1] at gl ⊢
    obtain ⟨n, hn⟩ : ∃ n, n = (s :: l).length := ⟨_, rfl⟩
    have cl := fun w => clone_any s w gl
    have n0 : 0 < n := by rw [hn]; simp
    rw [hc, ← hn] at nl
    rw [← hn]
    have HN := Lib.hid hn
    have g : ((n : Int) == 0) = false := by rw [beq_eq_false_iff_ne]; omega
    have n1 : (0 : Int) < (n : Int) := by omega
    clear e1 hc hn
    go_enter Tryz.func5, Tryz.ntmps5
    go_wp2_with fail
    refine r1.mono ?_
    rintro e w1 ⟨v', rfl, own, G⟩
    clear r1
    rw [← HN.out] at own
    obtain ⟨b', c', rfl⟩ := own_shape own
    have V : StrsAt w1 (.slice b' n c') (s :: l) := by
      rw [HN.out] at own ⊢
      exact owns_strs own
    obtain ⟨a, rfl, ha, hcell⟩ := V.at (j := 0) (s := s) rfl
    rw [show a.add 0 = a by unfold Addr.add; rw [if_pos rfl]] at hcell
    clear V own
    go_wp2_with fail
    refine (cl _).mono ?_
    rintro e w2 ⟨rfl, G2⟩
    clear cl
    replace G := G.trans (G2.mono G.size)
    go_wp2
    go_ret2
    exact ⟨rfl, G⟩
end Go.Proofs.YtdldoklkenhopaaGreatDoor.Fi
end

section
namespace Go.Proofs.YtdldoklkenhopaaGreatDoor.Fi
open Go.RowKit Go.PlainAid
open Hx
set_option linter.unusedVariables false
set_option maxRecDepth 20000
set_option linter.unusedSimpArgs false

/-! ### cut at marks that aren't in quotes -/
/-- what is left of a value, whether it begins in quotes, and what the part under way has by now -/
def cutQ (mark : UInt8) : List UInt8 → Bool → List UInt8 → List (List UInt8)
  | [], _, part => [trimT part]
  | c :: l, q, part =>
    if q = true ∧ c = 92 then
      match l with
      | [] => [trimT (part ++ [c])]
      | d :: l' => cutQ mark l' q (part ++ [c, d])
    else if c = 34 then cutQ mark l (!q) (part ++ [c])
    else if c = mark ∧ q = false then trimT part :: cutQ mark l q []
    else cutQ mark l q (part ++ [c])
theorem cutQ_nil (mark : UInt8) (q : Bool) (part : List UInt8) : cutQ mark [] q part = [trimT part] := by rw [cutQ]
theorem cutQ_esc (mark : UInt8) (d : UInt8) (l part : List UInt8) : cutQ mark (92 :: d :: l) true part = cutQ mark l true (part ++ [92, d]) := by
  rw [cutQ.eq_def]; simp
theorem cutQ_last (mark : UInt8) (part : List UInt8) : cutQ mark [92] true part = [trimT (part ++ [92])] := by
  rw [cutQ.eq_def]; simp
theorem cutQ_quote (mark : UInt8) (l : List UInt8) (q : Bool) (part : List UInt8) : cutQ mark (34 :: l) q part = cutQ mark l (!q) (part ++ [34]) := by
  rw [cutQ.eq_def]; simp
theorem cutQ_mark (mark : UInt8) (hm : mark ≠ 34) (l part : List UInt8) : cutQ mark (mark :: l) false part = trimT part :: cutQ mark l false [] := by
  rw [cutQ.eq_def]; simp [hm]
theorem cutQ_else (mark c : UInt8) (q : Bool) (l part : List UInt8) (h1 : ¬ (q = true ∧ c = 92)) (h2 : c ≠ 34) (h3 : ¬ (c = mark ∧ q = false)) : cutQ mark (c :: l) q part = cutQ mark l q (part ++ [c]) := by
  rw [cutQ.eq_def]; simp only; rw [if_neg h1, if_neg h2, if_neg h3]
def cutA (mark : UInt8) (l : List UInt8) : List (List UInt8) := cutQ mark l false []
theorem cutQ_bound (mark : UInt8) : ∀ (n : Nat) (l : List UInt8) (q : Bool) (part : List UInt8), l.length ≤ n → (cutQ mark l q part).length ≤ l.length + 1 ∧ ∀ p ∈ cutQ mark l q part, p.length ≤ part.length + l.length := by
  intro n
  induction n with
  | zero =>
    intro l q part hl
    have : l = [] := List.eq_nil_of_length_eq_zero (by omega)
    subst this
    rw [cutQ_nil]
    exact ⟨by simp, fun p hp => by simp at hp; subst hp; have := trimT_le part; omega⟩
  | succ n ih =>
    intro l q part hl
    cases l with
    | nil =>
      rw [cutQ_nil]
      exact ⟨by simp, fun p hp => by simp at hp; subst hp; have := trimT_le part; omega⟩
    | cons c l =>
      simp only [List.length_cons] at hl ⊢
      by_cases h1 : q = true ∧ c = 92
      · obtain ⟨rfl, rfl⟩ := h1
        cases l with
        | nil =>
          rw [cutQ_last]
          refine ⟨by simp, fun p hp => ?_⟩
          simp at hp; subst hp
          have := trimT_le (part ++ [92])
          simp at this
          simp; omega
        | cons d l =>
          rw [cutQ_esc]
          simp only [List.length_cons] at hl ⊢
          have := ih l true (part ++ [92, d]) (by omega)
          refine ⟨by omega, fun p hp => ?_⟩
          have := this.2 p hp
          simp at this
          omega
      · by_cases h2 : c = 34
        · subst h2
          rw [cutQ_quote]
          have := ih l (!q) (part ++ [34]) (by omega)
          refine ⟨by omega, fun p hp => ?_⟩
          have := this.2 p hp
          simp at this
          omega
        · by_cases h3 : c = mark ∧ q = false
          · obtain ⟨rfl, rfl⟩ := h3
            rw [cutQ_mark _ h2]
            have := ih l false [] (by omega)
            refine ⟨by simp only [List.length_cons]; omega, fun p hp => ?_⟩
            rcases List.mem_cons.1 hp with rfl | hp
            · have := trimT_le part; omega
            · have := this.2 p hp
              simp at this
              omega
          · rw [cutQ_else mark c q l part h1 h2 h3]
            have := ih l q (part ++ [c]) (by omega)
            refine ⟨by omega, fun p hp => ?_⟩
            have := this.2 p hp
            simp at this
            omega
theorem cutA_bound (mark : UInt8) (l : List UInt8) : (cutA mark l).length ≤ l.length + 1 ∧ ∀ p ∈ cutA mark l, p.length ≤ l.length := by
  have := cutQ_bound mark l.length l false [] (Nat.le_refl _)
  exact ⟨this.1, fun p hp => by have := this.2 p hp; simpa using this⟩
theorem cutQ_ne (mark : UInt8) : ∀ (n : Nat) (l : List UInt8) (q : Bool) (part : List UInt8), l.length ≤ n → cutQ mark l q part ≠ [] := by
  intro n
  induction n with
  | zero =>
    intro l q part hl
    have : l = [] := List.eq_nil_of_length_eq_zero (by omega)
    subst this
    rw [cutQ_nil]; simp
  | succ n ih =>
    intro l q part hl
    cases l with
    | nil => rw [cutQ_nil]; simp
    | cons c l =>
      simp only [List.length_cons] at hl
      by_cases h1 : q = true ∧ c = 92
      · obtain ⟨rfl, rfl⟩ := h1
        cases l with
        | nil => rw [cutQ_last]; simp
        | cons d l => rw [cutQ_esc]; simp only [List.length_cons] at hl; exact ih l _ _ (by omega)
      · by_cases h2 : c = 34
        · subst h2; rw [cutQ_quote]; exact ih l _ _ (by omega)
        · by_cases h3 : c = mark ∧ q = false
          · obtain ⟨rfl, rfl⟩ := h3
            rw [cutQ_mark _ h2]; simp
          · rw [cutQ_else mark c q l part h1 h2 h3]; exact ih l _ _ (by omega)

/-! ### elements -/
def elsF (s : ByteArray) : List ByteArray := fillF ((cutA 44 (ls s)).map tx)
def elemsF (name : List UInt8) (xs : List Fd) : List ByteArray := ((valsF name xs).map elsF).flatten
theorem elsF_bound (s : ByteArray) : (elsF s).length ≤ s.size + 1 ∧ ∀ p ∈ elsF s, p.size ≤ s.size := by
  have b := cutA_bound 44 (ls s)
  rw [ls_len] at b
  unfold elsF fillF
  refine ⟨Nat.le_trans (List.length_filter_le _ _) (by rw [List.length_map]; exact b.1), fun p hp => ?_⟩
  obtain ⟨q, hq, rfl⟩ := List.mem_map.1 (List.mem_filter.1 hp).1
  rw [tx_size]
  exact b.2 q hq
theorem sameL_low {a b n : List UInt8} (h : low a = low b) : sameL n a = sameL n b := by unfold sameL; rw [h]
theorem valsF_low {a b : List UInt8} (h : low a = low b) (xs : List Fd) : valsF a xs = valsF b xs := by
  unfold valsF
  congr 2
  funext f
  exact sameL_low h
/-- whether one of the texts is the word -/
def hasF (word : List UInt8) (ss : List ByteArray) : Bool := ss.any fun s => sameL (ls s) word
def nCon : ByteArray := ⟨#[67, 111, 110, 110, 101, 99, 116, 105, 111, 110]⟩
def wClose : ByteArray := ⟨#[99, 108, 111, 115, 101]⟩
def wKeep : ByteArray := ⟨#[107, 101, 101, 112, 45, 97, 108, 105, 118, 101]⟩
def closesF (xs : List Fd) (minor : Int) : Bool :=
  if hasF (ls wClose) (elemsF (ls nCon) xs) = true then true
  else if hasF (ls wKeep) (elemsF (ls nCon) xs) = true then false
  else decide (minor < 1)

/-! ### frames -/
def nTE : ByteArray := ⟨#[84, 114, 97, 110, 115, 102, 101, 114, 45, 69, 110, 99, 111, 100, 105, 110, 103]⟩
def nCL : ByteArray := ⟨#[67, 111, 110, 116, 101, 110, 116, 45, 76, 101, 110, 103, 116, 104]⟩
def wChunked : ByteArray := ⟨#[99, 104, 117, 110, 107, 101, 100]⟩
open Classical in
noncomputable def undN (s : ByteArray) (m : Int) : Int := if DecForm s then (if s.size ≤ 19 then amN (decTo s s.size) m else 0) else 0
open Classical in
noncomputable def undE (s : ByteArray) (m : Int) : Int := if DecForm s then (if s.size ≤ 19 then amE (decTo s s.size) m else 14) else 3
noncomputable def lenN (s : ByteArray) (m : Int) : Int := if undE s m = 14 then 0 else undN s m
noncomputable def lenE (s : ByteArray) (m : Int) : Int := if undE s m = 14 then 4 else undE s m
structure Fr where
  n : Int
  c : Bool
  e : Int
noncomputable def frF (xs : List Fd) (m : Int) : Fr :=
  if getN (ls nTE) xs = 0 ∧ getN (ls nCL) xs = 0 then ⟨-1, false, 0⟩
  else if 1 < getN (ls nTE) xs + getN (ls nCL) xs then ⟨0, false, 3⟩
  else if getN (ls nCL) xs = 1 then ⟨lenN (getS (ls nCL) xs) m, false, lenE (getS (ls nCL) xs) m⟩
  else if sameL (ls (getS (ls nTE) xs)) (ls wChunked) = true then ⟨0, true, 0⟩
  else ⟨0, false, 3⟩
theorem am_cases (n m : Int) : (amE n m = 0 ∧ amN n m = n ∧ 0 ≤ m ∧ n ≤ m) ∨ (amE n m = 14 ∧ amN n m = 0) := by
  unfold amE amN
  split
  · rename_i h; exact .inl ⟨rfl, rfl, h.1, h.2.1⟩
  · exact .inr ⟨rfl, rfl⟩
theorem und_cases (s : ByteArray) (m : Int) : (undE s m = 0 ∧ 0 ≤ undN s m ∧ undN s m ≤ m) ∨ ((undE s m = 14 ∨ undE s m = 3) ∧ undN s m = 0) := by
  unfold undE undN
  by_cases h : DecForm s
  · rw [if_pos h, if_pos h]
    by_cases c : s.size ≤ 19
    · rw [if_pos c, if_pos c]
      have d := decTo_fits h.2.2 c s.size (Nat.le_refl _)
      rcases am_cases (decTo s s.size) m with ⟨e1, e2, e3, e4⟩ | ⟨e1, e2⟩
      · rw [e1, e2]; exact .inl ⟨rfl, d.1, e4⟩
      · rw [e1, e2]; exact .inr ⟨.inl rfl, rfl⟩
    · rw [if_neg c, if_neg c]; exact .inr ⟨.inl rfl, rfl⟩
  · rw [if_neg h, if_neg h]; exact .inr ⟨.inr rfl, rfl⟩

/-! ### parameters -/
/-- the text of what stands behind a quote, up to the last one -/
def uqF : List UInt8 → List UInt8 → Option (List UInt8)
  | [], _ => none
  | c :: l, acc =>
    if c = 34 then (if l = [] then some acc else none)
    else if c = 92 then
      match l with
      | [] => none
      | d :: l' => uqF l' (acc ++ [d])
    else uqF l (acc ++ [c])
theorem uqF_nil (acc : List UInt8) : uqF [] acc = none := by rw [uqF]
theorem uqF_end (acc : List UInt8) : uqF [34] acc = some acc := by rw [uqF.eq_def]; simp
theorem uqF_quote {l : List UInt8} (acc : List UInt8) (h : l ≠ []) : uqF (34 :: l) acc = none := by rw [uqF.eq_def]; simp [h]
theorem uqF_esc (d : UInt8) (l acc : List UInt8) : uqF (92 :: d :: l) acc = uqF l (acc ++ [d]) := by rw [uqF.eq_def]; simp
theorem uqF_last (acc : List UInt8) : uqF [92] acc = none := by rw [uqF.eq_def]; simp
theorem uqF_else {c : UInt8} (l acc : List UInt8) (h1 : c ≠ 34) (h2 : c ≠ 92) : uqF (c :: l) acc = uqF l (acc ++ [c]) := by
  rw [uqF.eq_def]; simp only; rw [if_neg h1, if_neg h2]
def quoF : List UInt8 → Option (List UInt8)
  | [] => none
  | c :: l => if c = 34 then uqF l [] else none
def valF (l : List UInt8) : Option (List UInt8) := if isTok l = true then some l else quoF l
def parF (l : List UInt8) : Option Fd :=
  match cutB 61 l with
  | none => none
  | some (x, y) => if isTok x = true then (valF y).map fun v => ⟨tx (low x), tx v⟩ else none
/-- the parameters of parts, behind those that are there -/
def parsF : List ByteArray → List Fd → Option (List Fd)
  | [], acc => some acc
  | p :: ps, acc => match parF (ls p) with
    | none => none
    | some f => parsF ps (acc ++ [f])
structure Pm where
  h : ByteArray
  list : List Fd
  e : Int
def pmF (s : ByteArray) : Pm :=
  match parsF (fillF (((cutA 59 (ls s)).drop 1).map tx)) [] with
  | none => ⟨⟨#[]⟩, [], 3⟩
  | some l => ⟨((((cutA 59 (ls s)).map tx)[0]?).getD ⟨#[]⟩), l, 0⟩
end Go.Proofs.YtdldoklkenhopaaGreatDoor.Fi
end

section
namespace Go.Proofs.YtdldoklkenhopaaGreatDoor.Fi
open Go.RowKit Go.PlainAid
open Hx
set_option linter.unusedVariables false
set_option maxRecDepth 20000

theorem fldF_32 (full : Bool) : ∀ (k : Nat) (l : List UInt8), l.length ≤ k → ∀ (at_ : Nat) (acc : List Fd), acc.length ≤ 32 → (fldF full l at_ acc).list.length ≤ 32 := by
  intro k
  induction k with
  | zero =>
    intro l hl at_ acc h
    have : l = [] := List.eq_nil_of_length_eq_zero (by omega)
    subst this
    rw [fldF_err at_ acc lineF_nil]; simp
  | succ k ih =>
    intro l hl at_ acc h
    cases hq : lineF full l with
    | error e => rw [fldF_err at_ acc hq]; simp
    | ok p =>
      obtain ⟨x, r⟩ := p
      have hlen := lineF_len hq
      by_cases hx : x = []
      · subst hx; rw [fldF_end at_ acc hq]; exact h
      · cases hp : parseF x with
        | none => rw [fldF_form at_ acc hq hx hp]; simp
        | some f =>
          by_cases hc : acc.length = 32
          · rw [fldF_long at_ acc hq hx hp hc]; simp
          · rw [fldF_step at_ acc hq hx hp hc]
            exact ih r (by omega) _ _ (by rw [List.length_append]; simp; omega)
theorem spl_32 (s : List UInt8) : (spl s).list.length ≤ 32 := by
  unfold spl
  cases lineF (decide (4096 ≤ s.length)) (s.take 4096) with
  | error e => simp
  | ok p =>
    obtain ⟨x, r⟩ := p
    simp only
    by_cases hx : x = []
    · rw [if_pos hx]; simp
    · rw [if_neg hx]
      by_cases hc : 1024 < x.length
      · rw [if_pos hc]; simp
      · rw [if_neg hc]
        exact fldF_32 _ _ r (Nat.le_refl _) _ _ (by simp)
end Go.Proofs.YtdldoklkenhopaaGreatDoor.Fi
end

section
namespace Go.Proofs.YtdldoklkenhopaaGreatDoor.Hx
open Go.RowKit Go.PlainAid
set_option linter.unusedVariables false
set_option maxRecDepth 20000

theorem hex_step (s : ByteArray) (k : Nat) (h : k < s.size) {B n : Nat} {v : Value} {w1 : World}
    (hown : w1.ownsRow B 5 1 v n (bytesV (hexL (s.data.toList.take k)) ++ [.int .u8 (bt ⟨#[48, 49, 50, 51, 52, 53, 54, 55, 56, 57, 97, 98, 99, 100, 101, 102]⟩ (bt s k / 16).toNat), .int .u8 (bt ⟨#[48, 49, 50, 51, 52, 53, 54, 55, 56, 57, 97, 98, 99, 100, 101, 102]⟩ (bt s k % 16).toNat)])) :
    w1.ownsRow B 5 1 v n (bytesV (hexL (s.data.toList.take (k + 1)))) := by
  have b0 := bt_nonneg s k
  have b1 := bt_le s k
  rw [bt_dg _ (by omega), bt_dg _ (by omega)] at hown
  rw [take_snoc s k h, hexL_append, bytesV_append]
  have e := bt_get s k h
  rw [show (bt s k / 16).toNat = s[k].toNat / 16 by omega, show (bt s k % 16).toNat = s[k].toNat % 16 by omega] at hown
  exact hown

end Go.Proofs.YtdldoklkenhopaaGreatDoor.Hx
end

section
namespace Go.Proofs.YtdldoklkenhopaaGreatDoor.Hx
open Go.RowKit Go.PlainAid
set_option linter.unusedVariables false
set_option maxRecDepth 20000

/-- the first k bytes are small digits of base 16 -/
def AllSm (s : ByteArray) (k : Nat) : Prop := ∀ j, j < k → sok (bt s j) = true
theorem AllSm.zero (s : ByteArray) : AllSm s 0 := fun _ h => absurd h (Nat.not_lt_zero _)
theorem AllSm.succ2 {s : ByteArray} {k : Nat} (h : AllSm s (2 * k)) (h0 : sok (bt s (2 * k)) = true) (h1 : sok (bt s (2 * k + 1)) = true) : AllSm s (2 * (k + 1)) := fun j hj => by
  by_cases e : j = 2 * k
  · subst e; exact h0
  · by_cases e' : j = 2 * k + 1
    · subst e'; exact h1
    · exact h j (by omega)
/-- the byte of two digits -/
def pair (s : ByteArray) (k : Nat) : UInt8 := UInt8.ofNat (sv (bt s (2 * k)) * 16 + sv (bt s (2 * k + 1))).toNat
theorem pair_nat (s : ByteArray) (k : Nat) : ((pair s k).toNat : Int) = sv (bt s (2 * k)) * 16 + sv (bt s (2 * k + 1)) := by
  have a := sv_bd (bt s (2 * k))
  have b := sv_bd (bt s (2 * k + 1))
  unfold pair
  rw [UInt8.toNat_ofNat']
  omega
/-- the bytes of the first k pairs of digits -/
def unTo (s : ByteArray) : Nat → List UInt8
  | 0 => []
  | k + 1 => unTo s k ++ [pair s k]
theorem unTo_len (s : ByteArray) : ∀ k, (unTo s k).length = k
  | 0 => rfl
  | k + 1 => by simp [unTo, unTo_len s k]
def UnForm (s : ByteArray) : Prop := s.size % 2 = 0 ∧ AllSm s s.size

theorem or16b (x d : Int) (h0 : 0 ≤ x) (h1 : x ≤ 15) (h2 : 0 ≤ d) (h3 : d ≤ 15) : bits .or .u8 (x * 16) d = x * 16 + d :=
  bits_join .u8 8 (by decide) wraps_u8 4 (x * 16) d (by omega) (by omega) (by omega) h2 (by omega) (by omega)

def UnhexPost (s : ByteArray) (w : World) (e : Ending) (w' : World) : Prop :=
  ((UnForm s ∧ e = .returned (.tuple #[.string ⟨(unTo s (s.size / 2)).toArray⟩, .int .i64 0])) ∨ (¬ UnForm s ∧ e = .returned (.tuple #[.string ⟨#[]⟩, .int .i64 3]))) ∧ Below w.heap.size w w'

theorem unhex_step {B n : Nat} {v : Value} {w1 : World} (s : ByteArray) (k : Nat) (hown : w1.ownsRow B 5 1 v n (bytesV (unTo s k) ++ [.int .u8 (sv (bt s (2 * k)) * 16 + sv (bt s (2 * k + 1)))])) :
    w1.ownsRow B 5 1 v n (bytesV (unTo s (k + 1))) := by
  simp only [unTo, bytesV_append]
  rw [← pair_nat] at hown
  exact hown

end Go.Proofs.YtdldoklkenhopaaGreatDoor.Hx
end

section
namespace Go.Proofs.YtdldoklkenhopaaGreatDoor.Hx
open Go.RowKit Go.PlainAid
set_option linter.unusedVariables false
set_option maxRecDepth 20000

/-- the digits of n in base b + 2 -/
def digL (b n : Nat) : List UInt8 := if h : n < b + 2 then [hd n] else digL b (n / (b + 2)) ++ [hd (n % (b + 2))]
termination_by n
decreasing_by exact Nat.div_lt_self (by omega) (by omega)
theorem digL_small (b n : Nat) (h : n < b + 2) : digL b n = [hd n] := by rw [digL, dif_pos h]
theorem digL_great (b n : Nat) (h : ¬ n < b + 2) : digL b n = digL b (n / (b + 2)) ++ [hd (n % (b + 2))] := by rw [digL, dif_neg h]
/-- the digits of n, none of 0 -/
def digT (b n : Nat) : List UInt8 := if n = 0 then [] else digL b n
theorem digT_zero (b : Nat) : digT b 0 = [] := rfl
theorem digT_pos (b n : Nat) (h : 0 < n) : digT b n = digL b n := by unfold digT; rw [if_neg (by omega)]
theorem digT_step (b n : Nat) (h : 0 < n) : digT b (n / (b + 2)) ++ [hd (n % (b + 2))] = digT b n := by
  rw [digT_pos b n h]
  by_cases c : n < b + 2
  · rw [Nat.div_eq_of_lt c, Nat.mod_eq_of_lt c, digL_small b n c]; rfl
  · rw [digL_great b n c, digT_pos b _ (Nat.div_pos (by omega) (by omega))]
theorem digL_step (b n : Nat) : digT b (n / (b + 2)) ++ [hd (n % (b + 2))] = digL b n := by
  by_cases c : n < b + 2
  · rw [Nat.div_eq_of_lt c, Nat.mod_eq_of_lt c, digL_small b n c]; rfl
  · rw [digL_great b n c, digT_pos b _ (Nat.div_pos (by omega) (by omega))]

/-- an array of the call's own, m bytes, that holds ds from p on -/
structure Room (T : Nat) (w wr : World) (m p : Nat) (ds : List UInt8) : Prop where
  blk : ∃ cur, wr.heap[w.heap.size]? = some (.cells cur T (0, 0)) ∧ cur.size = m ∧ cur.toList.drop p = bytesV ds
  bel : Below w.heap.size w wr
theorem Room.len {T : Nat} {w wr : World} {m p : Nat} {ds : List UInt8} (h : Room T w wr m p ds) : ds.length = m - p := by
  obtain ⟨cur, _, hs, hd⟩ := h.blk
  have := congrArg List.length hd
  simp [bytesV_len] at this
  omega
theorem Room.cell {T : Nat} {w wr : World} {m p : Nat} {ds : List UInt8} (h : Room T w wr m p ds) (j : Nat) (hj : j < m) : ∃ v, wr.cell? ⟨w.heap.size, j, none⟩ = some v := by
  obtain ⟨cur, hg, hs, _⟩ := h.blk
  rw [cell_of_row _ _ _ _ _ _ hg]
  exact ⟨cur[j]'(by omega), Array.getElem?_eq_getElem (by omega)⟩
theorem Room.frozen {T : Nat} {w wr : World} {m p : Nat} {ds : List UInt8} (h : Room T w wr m p ds) (j : Nat) : wr.frozen? ⟨w.heap.size, j, none⟩ = false := by
  obtain ⟨cur, hg, _, _⟩ := h.blk
  exact frozen_of_row _ _ _ _ _ hg
theorem heap_set (w : World) (B j : Nat) (v : Value) (cs : Array Value) (t : TypeId) (fr : Nat × Nat) (h : w.heap[B]? = some (.cells cs t fr)) :
    (w.setCell ⟨B, j, none⟩ v).heap[B]? = some (.cells (cs.setIfInBounds j v) t fr) := by
  simp [World.setCell, Array.getElem?_modify, h]
theorem drop_set {α : Type} (l : List α) (j : Nat) (x : α) (h : j < l.length) : (l.set j x).drop j = x :: l.drop (j + 1) := by
  rw [List.drop_eq_getElem_cons (by simpa using h), List.drop_set_of_lt (by omega)]
  simp
theorem Room.store {T : Nat} {w wr : World} {m p : Nat} {ds : List UInt8} (h : Room T w wr m p ds) (hp : 0 < p) (hm : p ≤ m) (c : UInt8) (v : Value) (hv : v = .int .u8 (c.toNat : Int)) : Room T w (wr.setCell ⟨w.heap.size, p - 1, none⟩ v) m (p - 1) (c :: ds) := by
  obtain ⟨cur, hg, hs, hd⟩ := h.blk
  subst hv
  refine ⟨⟨_, heap_set _ _ _ _ _ _ _ hg, by simpa using hs, ?_⟩, h.bel.setCell (Nat.le_refl _) _⟩
  rw [Array.toList_setIfInBounds, drop_set _ _ _ (by simp; omega), show p - 1 + 1 = p by omega, hd]
  rfl
theorem Room.bytes {T : Nat} {w wr : World} {m p : Nat} {ds : List UInt8} (h : Room T w wr m p ds) : ∀ j (hj : j < ds.length), wr.cell? ((⟨w.heap.size, p, none⟩ : Addr).add j) = some (.int .u8 (ds[j].toNat : Int)) := by
  intro j hj
  have hl := h.len
  obtain ⟨cur, hg, hs, hd⟩ := h.blk
  have hadd : (⟨w.heap.size, p, none⟩ : Addr).add j = ⟨w.heap.size, p + j, none⟩ := by unfold Addr.add; split <;> simp_all
  rw [hadd, cell_of_row _ _ _ _ _ _ hg]
  have e := bytesV_get ds j hj
  rw [← hd, List.getElem?_drop] at e
  simpa using e

/-- what holds at each round: the digits of R are still to come -/
structure DigInv (T b n : Nat) (w wr : World) (m p R : Nat) : Prop where
  small : R < (b + 2) ^ p
  ds : ∃ ds, digT b R ++ ds = digL b n ∧ Room T w wr m p ds
theorem DigInv.step {T b n : Nat} {w wr : World} {m p R : Nat} (h : DigInv T b n w wr m p R) (hR : 0 < R) (hp : 0 < p) (hm : p ≤ m) (v : Value) (hv : v = .int .u8 ((hd (R % (b + 2))).toNat : Int)) :
    DigInv T b n w (wr.setCell ⟨w.heap.size, p - 1, none⟩ v) m (p - 1) (R / (b + 2)) := by
  obtain ⟨ds, he, hr⟩ := h.ds
  refine ⟨?_, hd (R % (b + 2)) :: ds, ?_, hr.store hp hm _ v hv⟩
  · rw [Nat.div_lt_iff_lt_mul (by omega), ← Nat.pow_succ, show (p - 1).succ = p by omega]; exact h.small
  · rw [← he, ← digT_step b R hR]; simp
theorem DigInv.pos {T b n : Nat} {w wr : World} {m p R : Nat} (h : DigInv T b n w wr m p R) (hR : 0 < R) : 0 < p := by
  have := h.small
  rcases Nat.eq_zero_or_pos p with e | e
  · subst e; simp at this; omega
  · exact e
theorem DigInv.bel {T b n : Nat} {w wr : World} {m p R : Nat} (h : DigInv T b n w wr m p R) : Below w.heap.size w wr := by
  obtain ⟨ds, _, hr⟩ := h.ds; exact hr.bel
theorem DigInv.cell {T b n : Nat} {w wr : World} {m p R : Nat} (h : DigInv T b n w wr m p R) (j : Nat) (hj : j < m) : ∃ v, wr.cell? ⟨w.heap.size, j, none⟩ = some v := by
  obtain ⟨ds, _, hr⟩ := h.ds; exact hr.cell j hj
theorem DigInv.frozen {T b n : Nat} {w wr : World} {m p R : Nat} (h : DigInv T b n w wr m p R) (j : Nat) : wr.frozen? ⟨w.heap.size, j, none⟩ = false := by
  obtain ⟨ds, _, hr⟩ := h.ds; exact hr.frozen j
theorem DigInv.conv {T b n : Nat} {w wr : World} {m p R : Nat} (h : DigInv T b n w wr m p R) (hR : R = 0) (cap : Nat) (l : Nat) (hl : l = m - p) :
    (convert 49 9 (.slice (some ⟨w.heap.size, p, none⟩) l cap)).run Tryz.prog wr = .ok (.string ⟨(digL b n).toArray⟩) wr := by
  obtain ⟨ds, he, hr⟩ := h.ds
  subst hR
  rw [digT_zero, List.nil_append] at he
  subst hl
  rw [← he, ← hr.len]
  exact run_convert_bytes_back wr 49 9 5 ⟨w.heap.size, p, none⟩ cap ds Tryz.underlying49 Tryz.underlying5 Tryz.underlying9 hr.bytes

theorem DigInv.len {T b n : Nat} {w wr : World} {m p R : Nat} (h : DigInv T b n w wr m p R) (hR : R = 0) : (digL b n).length ≤ m := by
  obtain ⟨ds, he, hr⟩ := h.ds
  subst hR
  rw [digT_zero, List.nil_append] at he
  rw [← he, hr.len]
  omega
theorem str_app (s : ByteArray) (l : List UInt8) : s ++ ⟨l.toArray⟩ = (⟨(s.data.toList ++ l).toArray⟩ : ByteArray) := by
  have : s = ⟨s.data.toList.toArray⟩ := by cases s; simp
  rw [this, ByteArray.mk_append_mk]

theorem sliceArr {T n : Nat} (ht : Tryz.prog.underlying T = some (.array n 5)) (w : World) (B p : Nat) (hp : p < n) :
    (Instr.sliceAt T (.pointer (some ⟨B, 0, none⟩)) (some (.int .i64 (p : Int))) none none).run Tryz.prog w = .ok (.slice (some ⟨B, p, none⟩) (n - p) (n - p)) w := by
  obtain ⟨i0, hi, hz0, hz1, hz2⟩ := info_parts info5
  have hne : ¬ n = p := by omega
  have h1 : (p : Int) ≤ (n : Int) := by omega
  have h0 : (0 : Int) ≤ (p : Int) := by omega
  have hadd : (⟨B, 0, none⟩ : Addr).add p = ⟨B, p, none⟩ := by unfold Addr.add; split <;> simp_all
  simp [Instr.sliceAt, Instr.sureAddr, run_underlying ht, Instr.sliceBounds, run_sliceBound, sizeOf, typeInfo, hi, hz1, hne, h0, h1, hadd]

theorem decimals_init (n : Nat) (w : World) (h1 : (n : Int) ≤ 9223372036854775808) (v : Value) (hv : v = .int .u8 ((hd (n % 10)).toNat : Int)) :
    DigInv 102 8 n w (w.alloc (.cells #[.int .u8 0, .int .u8 0, .int .u8 0, .int .u8 0, .int .u8 0, .int .u8 0, .int .u8 0, .int .u8 0, .int .u8 0, .int .u8 0, .int .u8 0, .int .u8 0, .int .u8 0, .int .u8 0, .int .u8 0, .int .u8 0, .int .u8 0, .int .u8 0, v] 102)) 19 18 (n / 10) := by
  refine ⟨?_, [hd (n % 10)], digL_step 8 n, ⟨_, heap_alloc_new w _, rfl, ?_⟩, (Below.refl _ _).alloc (Nat.le_refl _) _⟩
  · have : (8 + 2) ^ 18 = 1000000000000000000 := by decide
    omega
  · subst hv; rfl

set_option maxHeartbeats 800000 in
theorem decimals_any (n : Nat) (s : ByteArray) (w : World) (h1 : (n : Int) ≤ 9223372036854775808) (hs : s.size ≤ 1) :
    Calls Tryz.prog 44 #[.int .u64 n, .string s] w fun e w' => e = .returned (.string ⟨(s.data.toList ++ digL 8 n).toArray⟩) ∧ Below w.heap.size w w' := by
  have hdg := get_bt ⟨#[48, 49, 50, 51, 52, 53, 54, 55, 56, 57, 97, 98, 99, 100, 101, 102]⟩
  go_enter Tryz.func44, Tryz.ntmps44
  go_wp2
  go_loopw [6, 7] (fun a r wr => ∃ p R : Nat, p ≤ 18 ∧ (R : Int) ≤ 9223372036854775808 ∧ a = .int .i64 p ∧ r = .int .u64 R ∧ DigInv 102 8 n w wr 19 p R) (fun _ r _ => (intOf r).toNat)
  case atStart =>
    refine ⟨18, n / 10, by omega, by omega, rfl, rfl, ?_⟩
    exact decimals_init n w h1 _ (by rw [bt_dg _ (by omega)])
  case round =>
    obtain ⟨p, R, hp, hR, rfl, rfl, hinv⟩ := hrel
    by_cases hpos : 0 < R
    · have hp0 := hinv.pos hpos
      obtain ⟨v, hc⟩ := hinv.cell (p - 1) (by omega)
      have hf := hinv.frozen (p - 1)
      go_wp2
      have hn := hinv.step hpos hp0 (by omega) (.int .u8 (bt ⟨#[48, 49, 50, 51, 52, 53, 54, 55, 56, 57, 97, 98, 99, 100, 101, 102]⟩ (R % 10))) (by rw [bt_dg _ (by omega)])
      go_roundw
      case rel => exact ⟨p - 1, R / 10, by omega, by omega, by go_num, by go_num, hn⟩
      case measure => simp [intOf]; omega
    · have hR0 : R = 0 := by omega
      have hcv := hinv.conv hR0 (19 - p) (19 - p) rfl
      have hsl := sliceArr Tryz.underlying102 wr w.heap.size p (by omega)
      have hbel := hinv.bel
      have hlen := hinv.len hR0
      clear hR0
      go_wp2
      go_ret
      exact ⟨by rw [← str_app]; rfl, hbel⟩

theorem dec_pos (n : Int) (w : World) (h0 : 0 ≤ n) (h1 : n ≤ 9223372036854775807) :
    Calls Tryz.prog 21 #[.int .i64 n] w fun e w' => e = .returned (.string ⟨(digL 8 n.toNat).toArray⟩) ∧ Below w.heap.size w w' := by
  obtain ⟨m, rfl⟩ := Int.eq_ofNat_of_zero_le h0
  go_enter Tryz.func21, Tryz.ntmps21
  go_wp2_with fail
  refine (decimals_any m _ _ (by omega) (by decide)).mono ?_
  rintro e w' ⟨rfl, hb⟩
  go_wp2
  go_ret
  exact ⟨rfl, hb⟩
theorem neg_wrap (n : Int) (h0 : n < 0) (h1 : -9223372036854775808 ≤ n) : IntKind.u64.wrap (-IntKind.u64.wrap n) = ((-n).toNat : Int) := by
  rw [IntKind.wrap_u64, IntKind.wrap_u64]; omega
theorem dec_neg (n : Int) (w : World) (h0 : n < 0) (h1 : -9223372036854775808 ≤ n) :
    Calls Tryz.prog 21 #[.int .i64 n] w fun e w' => e = .returned (.string ⟨(45 :: digL 8 (-n).toNat).toArray⟩) ∧ Below w.heap.size w w' := by
  go_enter Tryz.func21, Tryz.ntmps21
  go_wp2_with fail
  rw [neg_wrap n h0 h1]
  refine (decimals_any (-n).toNat _ _ (by omega) (by decide)).mono ?_
  rintro e w' ⟨rfl, hb⟩
  go_wp2
  go_ret
  exact ⟨rfl, hb⟩

theorem and15 (x : Int) (h0 : 0 ≤ x) (h1 : x ≤ 9223372036854775807) : bits .and .u64 x 15 = x % 16 := bits_mask .u64 64 (by decide) wraps_u64 4 (by decide) x h0 (by omega)
end Go.Proofs.YtdldoklkenhopaaGreatDoor.Hx
end
