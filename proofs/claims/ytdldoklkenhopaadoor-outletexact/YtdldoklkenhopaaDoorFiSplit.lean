/-
  Contracts of fieldsFrom and Split of package field.
-/
import Derived.Test.YtdldoklkenhopaaDoorFiLine
namespace Go.Proofs.YtdldoklkenhopaaDoor.Fi
open Go.RowKit Go.PlainAid
open Hx
set_option linter.unusedVariables false
set_option maxRecDepth 20000
set_option linter.unusedSimpArgs false

theorem own_shape {w : World} {B e sz n : Nat} {v : Value} {xs : List Value} (h : w.ownsRow B e sz v n xs) : ∃ base cap, v = .slice base n cap := by
  rcases h.2 with ⟨rfl, h0⟩ | ⟨g, cap, cur, rfl, _⟩
  · subst h0; exact ⟨none, 0, rfl⟩
  · exact ⟨_, cap, rfl⟩
def FldPost (o : Out) (w : World) (e : Ending) (w' : World) : Prop := ∃ v, e = .returned (.tuple #[v, .int .i64 o.n, .int .i64 o.err]) ∧ FdsAt w' v o.list ∧ Below w.heap.size w w' ∧ ∀ b, v.ownBlock = some b → w.heap.size ≤ b
theorem fld_bad {o : Out} {er : Int} {w w' : World} (h : o = ⟨er, [], 0⟩) (hb : Below w.heap.size w w') : FldPost o w (.returned (.tuple #[.slice none 0 0, .int .i64 0, .int .i64 er])) w' := by
  subst h
  exact ⟨_, rfl, none_fds _, hb, fun b h => by simp [Value.ownBlock] at h⟩
set_option maxHeartbeats 2000000 in
theorem fieldsFrom_any (head : ByteArray) (k0 : Nat) (w : World) (hs : head.size ≤ 1099511627776) (hk0 : k0 ≤ head.size) :
    Calls Tryd.prog 22 #[.string head, .int .i64 k0] w (FldPost (fldF (decide (head.size = 4096)) ((ls head).drop k0) k0 []) w) := by
  obtain ⟨i0, hi, hz0, hz1, hz2⟩ := info_parts infoFd
  have own0 : w.ownsRow w.heap.size 26 2 (.slice none 0 0) 0 [] := World.ownsRow_nil _ _ _ _
  have bel0 := Below.refl w.heap.size w
  generalize hO : fldF (decide (head.size = 4096)) ((ls head).drop k0) k0 [] = O
  have HO := Lib.hid hO
  clear hO
  go_enter Tryd.func22, Tryd.ntmps22
  go_wp2
  go_loopw [1, 7] (fun a v wr => ∃ (k : Nat) (acc : List Fd) (base : Option Addr) (cap : Nat), k ≤ head.size ∧ a = .int .i64 k ∧ v = .slice base acc.length cap ∧ wr.ownsRow w.heap.size 26 2 (.slice base acc.length cap) acc.length (fdsL acc) ∧ Below w.heap.size w wr ∧ acc.length ≤ 32 ∧ fldF (decide (head.size = 4096)) ((ls head).drop k) k acc = O) (fun a _ _ => head.size - (intOf a).toNat)
  case atStart => exact ⟨k0, [], none, 0, hk0, rfl, rfl, own0, bel0, Nat.zero_le _, HO.out⟩
  case round =>
    clear own0 bel0 HO
    obtain ⟨k, acc, base, cap, hk, rfl, rfl, own, bel, h32, inv⟩ := hrel
    have hN := bel.size
    cases h : lineF (decide (head.size = 4096)) ((ls head).drop k) with
    | error e0 =>
      have hne := lineF_ne h
      have r1 := fun w => lineAt_err head k w hs hk h
      rw [fldF_err k acc h] at inv
      have H := Lib.hid inv.symm
      have g : (e0 != 0) = true := by rw [bne_iff_ne]; omega
      clear h hne inv
      go_wp2_with fail
      refine (r1 _).mono ?_
      rintro e w1 ⟨rfl, G⟩
      have F := bel.trans (G.mono bel.size)
      clear r1 own bel G
      go_wp2
      go_ret3
      exact fld_bad H.out F
    | ok p =>
      obtain ⟨x, r⟩ := p
      have r1 := fun w => lineAt_ok head k w hs hk h
      have hl := lineF_len h
      rw [List.length_drop, ls_len] at hl
      have hnext : (ls head).drop (k + x.length + 2) = r := by
        have e := (lineF_ok h).1
        rw [show k + x.length + 2 = k + (x.length + 2) by omega, ← List.drop_drop, e]
        rw [show x ++ 13 :: 10 :: r = (x ++ [13, 10]) ++ r by simp, List.drop_left' (by simp)]
      have HNX := Lib.hid hnext
      clear hnext
      by_cases hx : x = []
      · have t1 := tx_nil_of hx
        rw [hx] at h
        rw [fldF_end k acc h] at inv
        have H := Lib.hid inv
        subst hx
        clear h inv
        rw [show k + ([] : List UInt8).length + 2 = k + 2 by simp] at r1
        generalize tx [] = X at r1 t1
        go_wp2_with fail
        refine (r1 _).mono ?_
        rintro e w1 ⟨rfl, G⟩
        have F := bel.trans (G.mono bel.size)
        have own1 := owns_below own G
        clear r1 own bel G
        go_wp2
        go_ret3
        exact ⟨_, by rw [← H.out]; rfl, by rw [← H.out]; exact owns_fds own1, F, fun b h => (own1.lt b h).1⟩
      · obtain ⟨t1, t2⟩ := tx_ne_of hx
        have r2 := fun w => parse_any (tx x) w (by rw [tx_size]; omega)
        rw [ls_tx] at r2
        have hz : x.length + 2 + k ≤ head.size := by omega
        cases hp : parseF x with
        | none =>
          obtain ⟨p1, p2⟩ := p_none hp
          unfold ParsePost at r2
          rw [p1, p2] at r2
          rw [fldF_form k acc h hx hp] at inv
          have H := Lib.hid inv.symm
          clear h inv p1 p2 hp
          generalize tx x = X at r1 r2 t1 t2
          go_wp2_with fail
          refine (r1 _).mono ?_
          rintro e w1 ⟨rfl, G⟩
          have F := bel.trans (G.mono bel.size)
          clear r1 own bel G
          go_wp2_with fail
          refine (r2 _).mono ?_
          rintro e w2 ⟨rfl, G⟩
          replace F := F.trans (G.mono F.size)
          clear r2 G
          obtain ⟨w3, S3, A3, G3, Z3⟩ := fd_keep w2 Fd.zero
          replace F := F.trans (G3.mono F.size)
          clear A3 G3 Z3
          go_wp2_with (refine wpl_store S3 rfl rfl rfl rfl rfl ?_)
          go_ret3
          exact fld_bad H.out F
        | some f =>
          obtain ⟨p1, p2⟩ := p_some hp
          unfold ParsePost at r2
          rw [p1, p2] at r2
          clear p1 p2
          by_cases hc : acc.length = 32
          · rw [fldF_long k acc h hx hp hc] at inv
            have H := Lib.hid inv.symm
            have g : ((acc.length : Int) == 32) = true := by rw [hc]; rfl
            clear h inv hp hc
            generalize tx x = X at r1 r2 t1 t2
            go_wp2_with fail
            refine (r1 _).mono ?_
            rintro e w1 ⟨rfl, G⟩
            have F := bel.trans (G.mono bel.size)
            have own1 := owns_below own G
            clear r1 own bel G
            go_wp2_with fail
            refine (r2 _).mono ?_
            rintro e w2 ⟨rfl, G⟩
            replace F := F.trans (G.mono F.size)
            replace own1 := owns_below own1 G
            clear r2 G
            obtain ⟨w3, S3, A3, G3, Z3⟩ := fd_keep w2 f
            replace F := F.trans (G3.mono F.size)
            replace own1 := owns_below own1 G3
            clear A3 G3 Z3
            clear own1
            go_wp2_with (refine wpl_store S3 rfl rfl rfl rfl rfl ?_)
            go_ret3
            exact fld_bad H.out F
          · rw [fldF_step k acc h hx hp hc] at inv
            rw [← HNX.out] at inv
            have H := Lib.hid inv
            have g : ((acc.length : Int) == 32) = false := by rw [beq_eq_false_iff_ne]; omega
            clear h inv hp HNX
            generalize tx x = X at r1 r2 t1 t2
            go_wp2_with fail
            refine (r1 _).mono ?_
            rintro e w1 ⟨rfl, G⟩
            have F := bel.trans (G.mono bel.size)
            have own1 := owns_below own G
            clear r1 own bel G
            go_wp2_with fail
            refine (r2 _).mono ?_
            rintro e w2 ⟨rfl, G⟩
            replace F := F.trans (G.mono F.size)
            replace own1 := owns_below own1 G
            clear r2 G
            obtain ⟨w3, S3, A3, G3, Z3⟩ := fd_keep w2 f
            replace F := F.trans (G3.mono F.size)
            replace own1 := owns_below own1 G3
            have L3 := fd_loads A3
            clear A3 G3 Z3
            have hN := F.size
            go_upto_region 8 with (refine wpl_store S3 rfl rfl rfl rfl rfl ?_)
            clear S3
            generalize w2.heap.size = B at L3 ⊢
            go_upto_region 12 with (fail)
            go_upto_region 13 with (first | refine wpl_load L3 rfl rfl rfl ?_ | refine wpl_build (fdV_size f) rfl rfl rfl ?_ | (at_builtin; refine wpList_append_own _ rfl _ _ 23 rfl w.heap.size 26 i0 (.agg #[.string ⟨#[]⟩, .string ⟨#[]⟩]) 2 32 Tryd.underlying23 hi hz0 hz1 hz2 rfl (by decide) _ _ _ rfl (own1.alloc _) ⟨w3.heap.size, 0, none⟩ 1 1 (fdL f) rfl ?c0 ?c1 (fdL_one f) ?c3 ?c4 ?c5 ?_))
            case c0 => rfl
            case c1 => exact new_fd w3 f
            case c3 => unfold maxLen; omega
            case c4 => omega
            case c5 => simp; omega
            intro v' w4 own4 hgrow _
            have own5 : w4.ownsRow w.heap.size 26 2 v' (acc ++ [f]).length (fdsL (acc ++ [f])) := by
              rw [fdsL_snoc, List.length_append]
              exact own4
            have bel5 := (F.alloc F.size (.cells (fdV f) 26)).grown hgrow (by simp; omega) (fun j hj => (own1.lt j hj).1)
            clear own4 own1 F hgrow L3
            obtain ⟨base', cap', rfl⟩ := own_shape own5
            go_wp2
            go_roundw
            case rel => exact ⟨k + x.length + 2, acc ++ [f], base', cap', by omega, by go_num, rfl, own5, bel5, by rw [List.length_append]; simp; omega, H.out⟩
            case measure => simp [intOf]; omega
end Go.Proofs.YtdldoklkenhopaaDoor.Fi
