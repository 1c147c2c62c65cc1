/-
  The library's builder of texts that stands alone: what its methods do. No conditions but that it holds at most 2^40 bytes.
-/
import Derived.Test.YtdldoklkenhopaaDoorChMath
import Derived.Test.YtdldoklkenhopaaDoorFiMem
import Derived.Lib.FrozenHead2
import Derived.Lib.OthersKept
import Derived.Laws.Externs
namespace Go.Proofs.YtdldoklkenhopaaDoor.Ch
open Go.RowKit Go.PlainAid
open Hx Fi
set_option linter.unusedVariables false
set_option maxRecDepth 20000
set_option linter.unusedSimpArgs false

/-- below block N nothing but block b has turned -/
structure Keeps (b N : Nat) (w w' : World) : Prop where
  os : w'.os = w.os
  tape : w'.tape = w.tape
  output : w'.output = w.output
  size : w.heap.size ≤ w'.heap.size
  block : ∀ k, k < N → k ≠ b → w'.heap[k]? = w.heap[k]?
theorem Keeps.refl (b N : Nat) (w : World) : Keeps b N w w := ⟨rfl, rfl, rfl, Nat.le_refl _, fun _ _ _ => rfl⟩
theorem Keeps.trans {b N : Nat} {x y z : World} (h : Keeps b N x y) (k : Keeps b N y z) : Keeps b N x z :=
  ⟨k.os.trans h.os, k.tape.trans h.tape, k.output.trans h.output, Nat.le_trans h.size k.size, fun i hi hb => (k.block i hi hb).trans (h.block i hi hb)⟩
theorem Keeps.of_below {b N : Nat} {w w' : World} (h : Below N w w') : Keeps b N w w' := ⟨h.os, h.tape, h.output, h.size, fun k hk _ => h.block k hk⟩
theorem Keeps.set {b N : Nat} (w : World) (j : Nat) (v : Value) : Keeps b N w (w.setCell ⟨b, j, none⟩ v) := ⟨rfl, rfl, rfl, by simp [World.setCell], fun k _ hk => Below.heap_setCell _ _ _ _ hk⟩
theorem Keeps.grown {b N : Nat} {w w' : World} {row : Option Nat} (h : w.grownBy w' row) (hN : N ≤ w.heap.size) (hr : ∀ k, row = some k → N ≤ k) : Keeps b N w w' :=
  ⟨h.os, h.tape, h.output, h.size, fun k hk _ => h.block k (by omega) (fun e => by have := hr k e.symm; omega)⟩
theorem Keeps.below {b N M : Nat} {w0 w w' : World} (h : Keeps b N w w') (hb : Below M w0 w) (hM : M ≤ N) (hbm : M ≤ b) : Below M w0 w' :=
  hb.trans ⟨h.os, h.tape, h.output, h.size, fun k hk => h.block k (by omega) (by omega)⟩
theorem infoBuilder : (Tryd.prog.info? 59).map (·.size) = some 2 := by kernel_rfl
set_option maxHeartbeats 1000000 in
theorem copy_used (b : Nat) (w : World) (h0 : w.cell? ⟨b, 0, none⟩ = some (.pointer (some ⟨b, 0, none⟩))) :
    Calls Tryd.prog 47 #[.pointer (some ⟨b, 0, none⟩)] w fun e w' => e = .returned (.tuple #[]) ∧ w' = w := by
  obtain ⟨j, hj, _⟩ := Option.map_eq_some_iff.1 infoBuilder
  go_enter Tryd.func47, Tryd.ntmps47
  go_wp2
  rw [Lib.run_neq_ptr_same w _ Tryd.underlying56 hj]
  go_wp2
  go_end0
  exact ⟨rfl, rfl⟩
theorem keeps_freeze {b N g : Nat} (w : World) (n : Nat) (hg : N ≤ g) : Keeps b N w (w.freeze ⟨g, 0, none⟩ n) := Keeps.of_below (Lib.below_freeze (Below.refl N w) (p := ⟨g, 0, none⟩) hg n)
/-- the writer in block b, whose buffer lies from block N on, holds the bytes l -/
structure Wr (w : World) (b N : Nat) (l : List UInt8) : Prop where
  lo : b < N
  hi : N ≤ w.heap.size
  is : ∃ p v, (p = .pointer none ∨ p = .pointer (some ⟨b, 0, none⟩)) ∧ w.heap[b]? = some (.cells #[p, v] 59 (0, 0)) ∧ w.ownsRowF N 5 1 v l.length (bytesV l)
theorem Wr.below {w w' : World} {b N M : Nat} {l : List UInt8} (h : Wr w b N l) (hb : Below M w w') (hM : w.heap.size ≤ M) : Wr w' b N l := by
  obtain ⟨p, v, hp, hh, hv⟩ := h.is
  have hbs : b < w.heap.size := Nat.lt_of_lt_of_le h.lo h.hi
  refine ⟨h.lo, Nat.le_trans h.hi hb.size, p, v, hp, by rw [hb.block b (by omega)]; exact hh, ?_⟩
  refine hv.kept (row := none) ⟨hb.os, hb.tape, hb.output, hb.size, fun k hk _ => hb.block k (by omega)⟩ ?_
  cases v.ownBlock <;> simp
theorem Wr.drew {w : World} {b N : Nat} {l : List UInt8} (h : Wr w b N l) : Wr w.drew b N l := h.below ((Below.refl _ _).drew) (Nat.le_refl _)
/-- another writer is written: this one stays -/
theorem Wr.keeps {w w' : World} {b N c M : Nat} {l : List UInt8} (h : Wr w b N l) (k : Keeps c M w w') (hM : w.heap.size ≤ M) (hc : c < N) (hne : b ≠ c) : Wr w' b N l := by
  obtain ⟨p, v, hp, hh, hv⟩ := h.is
  have hbs : b < w.heap.size := Nat.lt_of_lt_of_le h.lo h.hi
  refine ⟨h.lo, Nat.le_trans h.hi k.size, p, v, hp, by rw [k.block b (by omega) hne]; exact hh, ?_⟩
  refine hv.kept (row := some c) ⟨k.os, k.tape, k.output, k.size, fun i hi hn => k.block i (by omega) fun e => hn (by rw [e])⟩ ?_
  refine Or.inr fun e => ?_
  have := (hv.lt c e).1
  omega
theorem liesBuilder : liesAt Tryd.prog Tryd.prog.depth 59 (2 / Tryd.prog.cellsOf 59) 0 59 1 = true := by kernel_rfl

set_option maxHeartbeats 1000000 in
theorem copy_fresh (b : Nat) (w : World) (h0 : w.cell? ⟨b, 0, none⟩ = some (.pointer none)) (hsh : w.shape? b = some (59, 2)) (hfz : w.frozen? ⟨b, 0, none⟩ = false) :
    Calls Tryd.prog 47 #[.pointer (some ⟨b, 0, none⟩)] w fun e w' => e = .returned (.tuple #[]) ∧ w' = w.setCell ⟨b, 0, none⟩ (.pointer (some ⟨b, 0, none⟩)) := by
  obtain ⟨j, hj, hjs⟩ := Option.map_eq_some_iff.1 infoBuilder
  go_enter Tryd.func47, Tryd.ntmps47
  go_wp2
  rw [Lib.run_to_unsafe w ⟨b, 0, none⟩ Tryd.underlying56 Tryd.underlying81 hj (by rw [hjs]; decide) hsh (Nat.zero_lt_succ 1)]
  simp only [Result.andThen]
  rw [Oper.upon_value]
  go_wp2
  rw [run_callFunc_extern Tryd.func55 (by kernel_rfl) (by kernel_rfl) (by kernel_rfl) (e := Extern.AbiNoEscape.same) (by kernel_rfl)]
  rw [Lib.run_noEscape]
  simp only [Result.andThen]
  rw [Oper.upon_value]
  go_wp2
  rw [Lib.run_from_unsafe w ⟨b, 0, none⟩ Tryd.underlying81 Tryd.underlying56 hj hsh liesBuilder]
  simp only [Result.andThen]
  rw [Oper.upon_value]
  go_wp2
  go_end0
  exact ⟨rfl, rfl⟩
theorem copy_any {b N : Nat} {l : List UInt8} {w : World} (h : Wr w b N l) :
    Calls Tryd.prog 47 #[.pointer (some ⟨b, 0, none⟩)] w fun e w' => e = .returned (.tuple #[]) ∧ (∃ v, w'.heap[b]? = some (.cells #[.pointer (some ⟨b, 0, none⟩), v] 59 (0, 0)) ∧ w'.ownsRowF N 5 1 v l.length (bytesV l)) ∧ Keeps b N w w' ∧ N ≤ w'.heap.size := by
  obtain ⟨p, v, hp, hh, hv⟩ := h.is
  have c0 : w.cell? ⟨b, 0, none⟩ = some p := by rw [Lib.cell_of_heap hh]; rfl
  rcases hp with rfl | rfl
  · refine (copy_fresh b w c0 (by simp [World.shape?, hh]) (Lib.frozen_of_heap hh 0)).mono ?_
    rintro e w' ⟨rfl, rfl⟩
    refine ⟨rfl, ⟨v, by simp [World.setCell, Array.getElem?_modify, hh], ?_⟩, Keeps.set w 0 _, by simpa [World.setCell] using h.hi⟩
    refine hv.kept (row := some b) ⟨rfl, rfl, rfl, by simp [World.setCell], fun k _ hk => Below.heap_setCell _ _ _ _ (fun e => hk (by simp [e]))⟩ (Or.inr fun e => ?_)
    have := (hv.lt b e).1
    have := h.lo
    omega
  · refine (copy_used b w c0).mono ?_
    rintro e w' ⟨rfl, rfl⟩
    exact ⟨rfl, ⟨v, hh, hv⟩, Keeps.refl _ _ _, h.hi⟩

/-- behind an append the new row is laid into the writer -/
theorem Wr.put {b N : Nat} {l : List UInt8} {w1 w2 : World} {v v' : Value} (hlo : b < N) (hN : N ≤ w1.heap.size) (hh : w1.heap[b]? = some (.cells #[.pointer (some ⟨b, 0, none⟩), v] 59 (0, 0)))
    (hg : w1.grownBy w2 v.ownBlock) (hv : ∀ k, v.ownBlock = some k → N ≤ k) (hown : w2.ownsRowF N 5 1 v' l.length (bytesV l)) : Wr (w2.setCell ⟨b, 1, none⟩ v') b N l ∧ Keeps b N w1 (w2.setCell ⟨b, 1, none⟩ v') := by
  have hb2 : w2.heap[b]? = some (.cells #[.pointer (some ⟨b, 0, none⟩), v] 59 (0, 0)) := by
    rw [hg.block b (by omega) (fun e => by have := hv b e.symm; omega)]
    exact hh
  refine ⟨⟨hlo, by simpa [World.setCell] using Nat.le_trans hN hg.size, _, v', Or.inr rfl, by simp [World.setCell, Array.getElem?_modify, hb2], ?_⟩, (Keeps.grown hg hN hv).trans (Keeps.set _ 1 _)⟩
  refine hown.kept (row := some b) ⟨rfl, rfl, rfl, by simp [World.setCell], fun k _ hk => Below.heap_setCell _ _ _ _ (fun e => hk (by simp [e]))⟩ (Or.inr fun e => ?_)
  have := (hown.lt b e).1
  omega
set_option maxHeartbeats 2000000 in
theorem string_any {b N : Nat} {l : List UInt8} {w : World} (h : Wr w b N l) (s : ByteArray) (hl : l.length + s.size ≤ 1099511627776) :
    Calls Tryd.prog 30 #[.pointer (some ⟨b, 0, none⟩), .string s] w fun e w' => e = .returned (.tuple #[.int .i64 s.size, .nilIface]) ∧ Wr w' b N (l ++ ls s) ∧ Keeps b N w w' := by
  obtain ⟨i0, hi, hz0, hz1, hz2⟩ := info_parts info5
  have hlo := h.lo; have hhi := h.hi
  have hss : s.size ≤ 9223372036854775807 := by omega
  go_enter Tryd.func30, Tryd.ntmps30
  go_wp2_with fail
  refine (copy_any h).mono ?_
  rintro e w1 ⟨rfl, ⟨v, hh, hown⟩, k1, s1⟩
  clear h
  have c1 : w1.cell? ⟨b, 1, none⟩ = some v := by rw [Lib.cell_of_heap hh]; rfl
  have c0 : w1.cell? ⟨b, 0, none⟩ = some (.pointer (some ⟨b, 0, none⟩)) := by rw [Lib.cell_of_heap hh]; rfl
  go_wp2_with (at_builtin; refine Lib.wpList_append_own_stringF _ rfl _ _ 57 9 rfl N 5 i0 Tryd.underlying57 Tryd.underlying9 hi hz0 hz1 hz2 _ _ _ rfl hown s rfl ?c3 ?c4 ?c5 ?_)
  case c3 => unfold maxLen; omega
  case c4 => omega
  case c5 => omega
  intro v' w2 hown' hgrow _
  have hvN : ∀ k, v.ownBlock = some k → N ≤ k := fun k hk => (hown.lt k hk).1
  have e5 : bytesV l ++ Lib.strCells s = bytesV (l ++ ls s) := by
    rw [bytesV_append]; rfl
  rw [e5] at hown'
  obtain ⟨W2, K2⟩ := Wr.put (l := l ++ ls s) hlo (by omega) hh hgrow hvN (by simpa [ls_len] using hown')
  have hb2 : w2.heap[b]? = some (.cells #[.pointer (some ⟨b, 0, none⟩), v] 59 (0, 0)) := by
    rw [hgrow.block b (by omega) (fun e => by have := hvN b e.symm; omega)]
    exact hh
  have d0 : w2.cell? ⟨b, 0, none⟩ = some (.pointer (some ⟨b, 0, none⟩)) := by rw [Lib.cell_of_heap hb2]; rfl
  have d1 : w2.cell? ⟨b, 1, none⟩ = some v := by rw [Lib.cell_of_heap hb2]; rfl
  have f1 : w2.frozen? ⟨b, 1, none⟩ = false := Lib.frozen_of_heap hb2 1
  obtain ⟨ao, n', cap, rfl⟩ : ∃ ao n' cap, v' = .slice ao n' cap := by
    rcases hown'.2 with ⟨hv, _⟩ | ⟨g, cap, cur, fz, hv, _⟩
    · exact ⟨_, _, _, hv⟩
    · exact ⟨_, _, _, hv⟩
  have K3 := k1.trans K2
  clear hown' hown hgrow K2 k1
  go_wp2
  go_ret2
  exact ⟨rfl, W2, K3⟩
set_option maxHeartbeats 2000000 in
/-- String: of a writer that holds at least one byte -/
theorem text_any {b N : Nat} {l : List UInt8} {w : World} (h : Wr w b N l) (h0 : l ≠ []) (hl : l.length ≤ 1099511627776) :
    Calls Tryd.prog 32 #[.pointer (some ⟨b, 0, none⟩)] w fun e w' => e = .returned (.string (tx l)) ∧ Wr w' b N l ∧ Keeps b N w w' := by
  obtain ⟨p, v, hp, hh, hv⟩ := h.is
  have hl0 : l.length ≠ 0 := by simpa using h0
  obtain ⟨g, cap, cur, fz, rfl, hbg, hg, hfz, hnc, hcm, hcs, htake⟩ : ∃ g cap cur fz, v = .slice (some ⟨g, 0, none⟩) l.length cap ∧ N ≤ g ∧ w.heap[g]? = some (.cells cur 5 fz) ∧ fz.2 ≤ l.length * 1 ∧ l.length ≤ cap ∧ cap ≤ maxLen ∧ cur.size = cap * 1 ∧ cur.toList.take (l.length * 1) = bytesV l := by
    rcases hv.2 with ⟨_, hz⟩ | ⟨g, cap, cur, fz, hv, r⟩
    · exact absurd hz hl0
    · exact ⟨g, cap, cur, fz, hv, r⟩
  have c1 : w.drew.cell? ⟨b, 1, none⟩ = some (.slice (some ⟨g, 0, none⟩) l.length cap) := by
    have : w.drew.heap[b]? = some (.cells #[p, .slice (some ⟨g, 0, none⟩) l.length cap] 59 (0, 0)) := hh
    rw [Lib.cell_of_heap this]; rfl
  have hSD : (Builtin.unsafeSliceData_ #[57] 77 #[.slice (some ⟨g, 0, none⟩) l.length cap]).run Tryd.prog w.drew = .ok (.pointer (some ⟨g, 0, none⟩)) w.drew :=
    Lib.run_unsafeSliceData_row _ _ _ _ _ _ (by omega)
  have hUS : (Builtin.unsafeString_ #[77, 3] 9 #[.pointer (some ⟨g, 0, none⟩), .int .i64 l.length]).run Tryd.prog w.drew = .ok (.string (tx l)) (w.drew.freeze ⟨g, 0, none⟩ l.length) := by
    have := Lib.run_unsafeString_row (P := Tryd.prog) w.drew 77 3 9 5 Tryd.underlying77 (by kernel_rfl) g cur.size (by have hg' : w.drew.heap[g]? = some (.cells cur 5 fz) := hg; simp [World.shape?, hg']) l (by simpa using h0) (by omega) (by omega) (by
      intro j x hx
      have := hv.cells (g := g) rfl j (.int .u8 x.toNat) (by rw [bytesV, List.getElem?_map, hx]; rfl)
      exact this)
    exact this
  have W2 : Wr (w.drew.freeze ⟨g, 0, none⟩ l.length) b N l := by
    have hb : Lib.BuilderAtF 59 5 b b p (bytesV l) w.drew := ⟨Nat.le_refl _, _, hh, by
      rw [bytesV_len]
      exact ⟨hv.1, .inr ⟨g, cap, cur, fz, rfl, by have := h.lo; omega, hg, hfz, hnc, hcm, hcs, htake⟩⟩, by simp [Value.ownBlock]; have := h.lo; omega⟩
    have hF := hb.froze (g := g) (cap := cap) (by rw [bytesV_len]; exact c1)
    rw [bytesV_len] at hF
    obtain ⟨_, v2, hh2, hv2, _⟩ := hF
    refine ⟨h.lo, ?_, p, v2, hp, hh2, ?_⟩
    · have := (keeps_freeze (b := b) (N := N) w.drew l.length hbg).size
      have h2 := h.hi
      exact Nat.le_trans h2 this
    · rw [bytesV_len] at hv2
      have e2 : w.drew.heap[b]? = some (.cells #[p, .slice (some ⟨g, 0, none⟩) l.length cap] 59 (0, 0)) := hh
      have e3 := (keeps_freeze (b := N) (N := N) w.drew l.length hbg).block b h.lo (by have := h.lo; omega)
      rw [hh2, e2] at e3
      have : v2 = .slice (some ⟨g, 0, none⟩) l.length cap := by simpa using e3
      subst this
      refine ⟨hv2.1, ?_⟩
      rcases hv2.2 with ⟨e4, _⟩ | ⟨g', cap', cur', fz', e4, _, r⟩
      · cases e4
      · injection e4 with e5 _ e6
        injection e5 with e7
        injection e7 with e8
        subst e8
        subst e6
        exact .inr ⟨g, cap, cur', fz', rfl, hbg, r⟩
  have K2 : Keeps b N w (w.drew.freeze ⟨g, 0, none⟩ l.length) := (Keeps.of_below ((Below.refl N w).drew)).trans (keeps_freeze w.drew l.length hbg)
  clear hv hg htake hp h
  go_enter Tryd.func32, Tryd.ntmps32
  go_wp2
  go_region
  all_goals (go_wp2; go_ret; exact ⟨rfl, W2, K2⟩)
set_option maxHeartbeats 2000000 in
/-- String: of one that holds nothing -/
theorem text_none {b : Nat} {w : World} (h : At w b 59 #[.pointer none, .slice none 0 0]) :
    Calls Tryd.prog 32 #[.pointer (some ⟨b, 0, none⟩)] w fun e w' => e = .returned (.string ⟨#[]⟩) ∧ Below w.heap.size w w' := by
  have c1 : w.drew.cell? ⟨b, 1, none⟩ = some (.slice none 0 0) := (h.drew).cell 1
  have hSD : (Builtin.unsafeSliceData_ #[57] 77 #[.slice none 0 0]).run Tryd.prog w.drew = .ok (.pointer none) w.drew := Lib.run_unsafeSliceData_nil _ _ _ _ _
  have hUS : (Builtin.unsafeString_ #[77, 3] 9 #[.pointer none, .int .i64 0]).run Tryd.prog w.drew = .ok (.string ⟨#[]⟩) w.drew := Lib.run_unsafeString_none _ _ _ _ _
  have K : Below w.heap.size w w.drew := (Below.refl _ _).drew
  clear h
  go_enter Tryd.func32, Tryd.ntmps32
  go_wp2
  go_region
  all_goals (go_wp2; go_ret; exact ⟨rfl, K⟩)
end Go.Proofs.YtdldoklkenhopaaDoor.Ch
