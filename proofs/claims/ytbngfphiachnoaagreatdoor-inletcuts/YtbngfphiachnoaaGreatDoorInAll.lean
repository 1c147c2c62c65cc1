/-
  Contract of all of the laws: all requests that an inlet has.
-/
import Derived.Test.YtbngfphiachnoaaGreatDoorInList
namespace Go.Proofs.YtbngfphiachnoaaGreatDoor.In
open Go.RowKit Go.PlainAid
open Hx Fi Ch
set_option linter.unusedVariables false
set_option maxRecDepth 20000
set_option linter.unusedSimpArgs false

theorem wpl_buildR {ops : Array Oper} {rest : List Oper} {o : Oper} {a : Act} {w : World} {Q : Exit → Act → World → Prop} {x : Operand} {cs : Array Value} (hs : cs.size = 4) (hg : o.guard = none) (ho : o.op = .buildSlice 42 1 #[(0, x)]) (hx : a.eval x = .agg cs)
    (h : wpList Tryz.prog ops Q rest (a.put o.dst (.slice (some ⟨w.heap.size, 0, none⟩) 1 1)) (w.alloc (.cells cs 30))) : wpList Tryz.prog ops Q (o :: rest) a w := by
  obtain ⟨i0, hi, hz0, hz1, hz2⟩ := info_parts infoRq
  refine wpList_buildSlice hg 42 30 1 #[(0, x)] ho cs i0 (.agg zR) Tryz.underlying42 hi hz0 (by rw [hz1]; decide) (by rw [hz1]; decide) ?_ h
  rw [hz1]
  have e : (#[(0, x)].map fun (i, x) => (i, a.eval x)).toList = (([Value.agg cs].zipIdx 0).map fun x => (x.2, x.1)) := by
    simp [hx]
  rw [e, Great.fill_whole (s := 4) (by decide) [.agg cs] _ (by intro v hv; simp at hv; subst hv; exact hs) (by simp)]
  simp [Value.cells]
theorem wpl_appR {ops : Array Oper} {rest : List Oper} {o : Oper} {a : Act} {Q : Exit → Act → World → Prop} {w : World} {v u : Value} {R : Value → World → Prop} (hr : ∀ ty, ∃ v' w', (Builtin.append_ #[42, 42] ty #[v, u]).run Tryz.prog w = .ok v' w' ∧ R v' w') (hgd : o.guard = none) (sl x : Operand)
    (hop : o.op = .call { callee := .builtin .append, args := #[sl, x], argTypes := #[42, 42] }) (hs : a.eval sl = v) (hx : a.eval x = u)
    (hK : ∀ v' w', R v' w' → wpList Tryz.prog ops Q rest (a.put o.dst v') w') : wpList Tryz.prog ops Q (o :: rest) a w :=
  wpList_plain hgd fun K hK' => by
    obtain ⟨v', w', hr, h2⟩ := hr o.type
    unfold Oper.wp execOp
    simp only [hop, resolve, invoke, builtin, Sem.run_bind, Sem.run_pure, Result.andThen_ok, List.map_toArray, List.map_cons, List.map_nil, hs, hx, hr]
    exact hK' _ _ (hK v' w' h2)
/-- where the loop of all stands -/
structure AInv (w : World) (Z : Nat → Prop) (wr : World) (p : Nat) (l l' : List UInt8) (v : Value) (es : List El) (k : Nat) : Prop where
  len : es.length = k
  le : k + (allF l').qs.length ≤ 8191
  short : l'.length ≤ 524288
  qs : (allF l).qs = es.map Prod.fst ++ (allF l').qs
  st : (allF l).st = (allF l').st
  rest : (allF l).rest = (allF l').rest
  own : Owns w Z wr [inT p l' 0, lsT v es, noT]
/-- what all answers, and what stays -/
def AllPost (w : World) (p : Nat) (Z : Nat → Prop) (l : List UInt8) (e : Ending) (w' : World) : Prop :=
  ∃ o cap es, e = .returned (.tuple #[.slice o es.length cap, .int .i64 (allF l).st]) ∧ es.map Prod.fst = (allF l).qs ∧ ∃ Z' Y', (inT p (allF l).rest (allF l).st).P w' Z' ∧ (lsT (.slice o es.length cap) es).P w' Y' ∧ (∀ b, Z' b → ¬ Y' b) ∧ Goes w w' Z (fun b => Z' b ∨ Y' b)
theorem all_end {w w' : World} {Z : Nat → Prop} {p : Nat} {l l2 : List UInt8} {st : Int} {o : Option Addr} {cap : Nat} {es : List El} {T : Thing} (h : Owns w Z w' [inT p l2 st, lsT (.slice o es.length cap) es, T]) (hq : es.map Prod.fst = (allF l).qs) (hst : (allF l).st = st) (hr : (allF l).rest = l2) :
    AllPost w p Z l (.returned (.tuple #[.slice o es.length cap, .int .i64 st])) w' := by
  obtain ⟨Zf, h1, h2, g⟩ := h
  refine ⟨o, cap, es, by rw [hst], hq, Zf 0, Zf 1, by rw [hst, hr]; exact h1 0 _ rfl, h1 1 _ rfl, h2 0 1 (by simp) (by simp) (by omega), g.os, g.tape, g.output, g.size, g.block, ?_⟩
  rintro b (x | x)
  · exact g.sub b ⟨0, by simp, x⟩
  · exact g.sub b ⟨1, by simp, x⟩
set_option maxHeartbeats 4000000 in
theorem all_any {w : World} {p : Nat} {Z : Nat → Prop} {l : List UInt8} (h : (inT p l 0).P w Z) (hq : (allF l).qs.length ≤ 8191) (hl : l.length ≤ 524288) :
    Calls Tryz.prog 17 #[.pointer (some ⟨p, 0, none⟩)] w (AllPost w p Z l) := by
  have O0 := own_lnil (Owns.start w h 2) 1 rfl
  have I0 : Hid (AInv w Z (w.alloc (.cells #[] 30)) p l l (.slice (some ⟨w.heap.size, 0, none⟩) 0 0) [] 0) := Lib.hid ⟨rfl, by omega, hl, rfl, rfl, rfl, O0⟩
  clear O0 h
  go_enter Tryz.func17, Tryz.ntmps17
  go_wp2_with fail
  generalize w.alloc _ = w0 at I0 ⊢
  go_loopw [4, 5] (fun a i wr => ∃ (o : Option Addr) (cap : Nat) (es : List El) (l' : List UInt8) (k : Nat), a = .slice o es.length cap ∧ i = .int .i64 k ∧ AInv w Z wr p l l' (.slice o es.length cap) es k) (fun _ i _ => 8192 - (intOf i).toNat)
  case atStart => exact ⟨_, _, [], l, 0, rfl, rfl, I0.out⟩
  case round =>
    clear I0
    obtain ⟨o, cap, es, l', k, rfl, rfl, J⟩ := hrel
    have hle := J.le
    have l1 : (k : Int) < 8192 := by omega
    have hl' := J.short
    have O := J.own
    cases hr : rdF l' with
    | more =>
      have C := own_none O 0 rfl hl' hr
      have E := Lib.hid (show ∀ w' T, Owns w Z w' [inT p l' 0, lsT (.slice o es.length cap) es, T] → AllPost w p Z l (.returned (.tuple #[.slice o es.length cap, .int .i64 0])) w' from fun w' T O' =>
        all_end O' (by rw [J.qs, all_more hr]; simp) (by rw [J.st, all_more hr]) (by rw [J.rest, all_more hr]))
      clear J O hr
      go_wp2_with fail
      refine C.mono ?_
      rintro e w1 ⟨rfl, O1⟩
      clear C
      obtain ⟨w2, S2, O2⟩ := own_zero O1 2 rfl
      unfold zR at S2
      go_upto_region 6 with (refine wpl_store S2 rfl rfl rfl rfl rfl ?_)
      clear S2
      have R := E.out w2 _ O2
      clear O1 O2 E
      go_wp2
      go_ret2
      exact R
    | bad st =>
      have C := own_bad O 0 rfl hl' hr
      have hne := rd_bad_ne hr
      have g : (st != 200) = true := by rw [bne_iff_ne]; exact hne.2
      have E := Lib.hid (show ∀ w' T, Owns w Z w' [inT p l' st, lsT (.slice o es.length cap) es, T] → AllPost w p Z l (.returned (.tuple #[.slice o es.length cap, .int .i64 st])) w' from fun w' T O' =>
        all_end O' (by rw [J.qs, all_bad hr]; simp) (by rw [J.st, all_bad hr]) (by rw [J.rest, all_bad hr]))
      clear J O hr hne
      go_wp2_with fail
      refine C.mono ?_
      rintro e w1 ⟨rfl, O1⟩
      clear C
      obtain ⟨w2, S2, O2⟩ := own_zero O1 2 rfl
      unfold zR at S2
      go_upto_region 6 with (refine wpl_store S2 rfl rfl rfl rfl rfl ?_)
      clear S2
      have R := E.out w2 _ O2
      clear O1 O2 E
      go_wp2
      go_ret2
      exact R
    | ok q n =>
      have C := own_ok O 0 2 (by decide) rfl rfl hl' hr
      have hp := rd_pos hr
      have E := Lib.hid (show ∀ w' v' fv, Owns w Z w' [inT p (l'.drop n) 0, lsT v' (es ++ [(q, fv)]), noT] → AInv w Z w' p l (l'.drop n) v' (es ++ [(q, fv)]) (k + 1) from fun w' v' fv O' =>
        ⟨by rw [List.length_append, J.len]; rfl, by rw [all_ok hr] at hle; simp only [List.length_cons] at hle; omega, by rw [List.length_drop]; omega, by rw [J.qs, all_ok hr]; simp, by rw [J.st, all_ok hr], by rw [J.rest, all_ok hr], O'⟩)
      have hk := Lib.hid J.len
      have hes : es.length + 1 ≤ 1000000 := by rw [J.len]; omega
      clear J O hr
      go_wp2_with fail
      refine C.mono ?_
      rintro e w1 ⟨fv, rfl, hf, O1⟩
      clear C
      obtain ⟨w2, S2, O2⟩ := own_box O1 2 rfl hf
      unfold zR at S2
      go_upto_region 6 with (refine wpl_store S2 rfl rfl rfl rfl rfl ?_)
      clear S2
      generalize w1.heap.size = B at O2 ⊢
      replace O2 : Owns w Z w2 [inT p (l'.drop n) 0, lsT (.slice o es.length cap) es, xT B q fv] := O2
      clear O1
      have L2 : Loads Tryz.prog w2 30 ⟨B, 0, none⟩ (rqV q fv) := (own_x O2 2 rfl).1.loads (by kernel_rfl) (by rw [rqV_size]; kernel_rfl)
      have AP := fun ty => own_push O2 1 2 (by decide) rfl rfl hf hes ty
      clear O2
      go_upto_region 4 with (first | refine wpl_load L2 rfl rfl rfl ?_ | refine wpl_buildR (rqV_size q fv) rfl rfl rfl ?_ | (at_builtin; refine wpl_appR AP rfl _ _ rfl rfl rfl ?_; intro v' w4 O4))
      clear AP L2
      replace O4 : Owns w Z w4 [inT p (l'.drop n) 0, lsT v' (es ++ [(q, fv)]), noT] := O4
      obtain ⟨o4, cap4, rfl, _⟩ := own_at O4 1 rfl
      have J4 := E.out w4 _ fv O4
      clear O4 E
      go_wp2
      go_roundw
      case rel => exact ⟨o4, cap4, _, _, k + 1, rfl, by go_num, J4⟩
      case measure => simp [intOf]; omega
theorem own_all {w0 w : World} {Z0 : Nat → Prop} {L : List Thing} (h : Owns w0 Z0 w L) (i j : Nat) (hij : i ≠ j) {p : Nat} {l : List UInt8} (hi : L[i]? = some (inT p l 0)) (hj : L[j]? = some noT) (hq : (allF l).qs.length ≤ 8191) (hl : l.length ≤ 524288) :
    Calls Tryz.prog 17 #[.pointer (some ⟨p, 0, none⟩)] w fun e w' => ∃ o cap es, e = .returned (.tuple #[.slice o es.length cap, .int .i64 (allF l).st]) ∧ es.map Prod.fst = (allF l).qs ∧ Owns w0 Z0 w' ((L.set i (inT p (allF l).rest (allF l).st)).set j (lsT (.slice o es.length cap) es)) := by
  obtain ⟨Z, Y, hZ, hY, hd, k⟩ := h.two i j hij hi hj
  refine (all_any hZ hq hl).mono fun e w' ⟨o, cap, es, a, b, Z', Y', p1, p2, d2, g⟩ => ⟨o, cap, es, a, b, k w' _ _ Z' Y' p1 p2 d2 ⟨g.os, g.tape, g.output, g.size, fun b x y => g.block b x fun z => y (.inl z), fun b x => ?_⟩⟩
  rcases g.sub b x with y | y
  · exact .inl (.inl y)
  · exact .inr y
end Go.Proofs.YtbngfphiachnoaaGreatDoor.In
