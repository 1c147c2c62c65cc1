/-
  The builder of texts that is embedded in a writer: what its methods do. No conditions but that it holds at most 2^40 bytes.
  Contracts of the writer's methods: number, text, slip.
  Contract of Write: the record of a slip that can be, or ErrArg.
-/
import Derived.Test.YtdmgobffhpgjlaaGreatSlB
import Derived.Lib.FrozenHead2
import Derived.Lib.OthersKept
import Derived.Laws.Externs
import Derived.Test.YtdmgobffhpgjlaaGreatCrSet
section
namespace Go.Proofs.YtdmgobffhpgjlaaGreat.Sl
open Go.RowKit Go.PlainAid Go.Proofs.YtdmgobffhpgjlaaGreat.Cr
set_option linter.unusedVariables false
set_option maxRecDepth 20000
set_option linter.unusedSimpArgs false

/-- below block N nothing but block b has turned -/
structure Keeps (b N : Nat) (w w' : World) : Prop where
  os : w'.os = w.os
  tape : w'.tape = w.tape
  output : w'.output = w.output
  size : w.heap.size ≤ w'.heap.size
  block : ∀ k, k < N → k ≠ b → w'.heap[k]? = w.heap[k]?
theorem Keeps.refl (b N : Nat) (w : World) : Keeps b N w w := ⟨rfl, rfl, rfl, Nat.le_refl _, fun _ _ _ => rfl⟩
theorem Keeps.trans {b N : Nat} {x y z : World} (h : Keeps b N x y) (k : Keeps b N y z) : Keeps b N x z :=
  ⟨k.os.trans h.os, k.tape.trans h.tape, k.output.trans h.output, Nat.le_trans h.size k.size, fun i hi hb => (k.block i hi hb).trans (h.block i hi hb)⟩
theorem Keeps.of_below {b N : Nat} {w w' : World} (h : Below N w w') : Keeps b N w w' := ⟨h.os, h.tape, h.output, h.size, fun k hk _ => h.block k hk⟩
theorem Keeps.set {b N : Nat} (w : World) (j : Nat) (v : Value) : Keeps b N w (w.setCell ⟨b, j, none⟩ v) := ⟨rfl, rfl, rfl, by simp [World.setCell], fun k _ hk => Below.heap_setCell _ _ _ _ hk⟩
theorem Keeps.grown {b N : Nat} {w w' : World} {row : Option Nat} (h : w.grownBy w' row) (hN : N ≤ w.heap.size) (hr : ∀ k, row = some k → N ≤ k) : Keeps b N w w' :=
  ⟨h.os, h.tape, h.output, h.size, fun k hk _ => h.block k (by omega) (fun e => by have := hr k e.symm; omega)⟩
theorem Keeps.below {b N M : Nat} {w0 w w' : World} (h : Keeps b N w w') (hb : Below M w0 w) (hM : M ≤ N) (hbm : M ≤ b) : Below M w0 w' :=
  hb.trans ⟨h.os, h.tape, h.output, h.size, fun k hk => h.block k (by omega) (by omega)⟩
theorem At.keeps {b N B T : Nat} {w w' : World} {cs : Array Value} (h : At w B T cs) (k : Keeps b N w w') (hN : B < N) (hb : B ≠ b) : At w' B T cs := h.same (k.block B hN hb)

/-- the writer in block b, whose buffer lies from block N on, holds the bytes l -/
structure Wr (w : World) (b N : Nat) (l : List Nat) : Prop where
  lo : b < N
  hi : N ≤ w.heap.size
  lt : ∀ x ∈ l, x < 256
  is : ∃ p v, (p = .pointer none ∨ p = .pointer (some ⟨b, 0, none⟩)) ∧ w.heap[b]? = some (.cells #[p, v] 122 (0, 0)) ∧ w.ownsRowF N 5 1 v l.length (dV l)
theorem Wr.below {w w' : World} {b N M : Nat} {l : List Nat} (h : Wr w b N l) (hb : Below M w w') (hM : w.heap.size ≤ M) : Wr w' b N l := by
  obtain ⟨p, v, hp, hh, hv⟩ := h.is
  have hbs : b < w.heap.size := Nat.lt_of_lt_of_le h.lo h.hi
  refine ⟨h.lo, Nat.le_trans h.hi hb.size, h.lt, p, v, hp, by rw [hb.block b (by omega)]; exact hh, ?_⟩
  refine hv.kept (row := none) ⟨hb.os, hb.tape, hb.output, hb.size, fun k hk _ => hb.block k (by omega)⟩ ?_
  cases v.ownBlock <;> simp
theorem Wr.drew {w : World} {b N : Nat} {l : List Nat} (h : Wr w b N l) : Wr w.drew b N l := h.below ((Below.refl _ _).drew) (Nat.le_refl _)
/-- another writer is written: this one stays -/
theorem Wr.keeps {w w' : World} {b N c M : Nat} {l : List Nat} (h : Wr w b N l) (k : Keeps c M w w') (hM : w.heap.size ≤ M) (hc : c < N) (hne : b ≠ c) : Wr w' b N l := by
  obtain ⟨p, v, hp, hh, hv⟩ := h.is
  have hbs : b < w.heap.size := Nat.lt_of_lt_of_le h.lo h.hi
  refine ⟨h.lo, Nat.le_trans h.hi k.size, h.lt, p, v, hp, by rw [k.block b (by omega) hne]; exact hh, ?_⟩
  refine hv.kept (row := some c) ⟨k.os, k.tape, k.output, k.size, fun i hi hn => k.block i (by omega) fun e => hn (by rw [e])⟩ ?_
  refine Or.inr fun e => ?_
  have := (hv.lt c e).1
  omega
theorem infoB : (Tryz.prog.info? 5).map (fun i => (i.zero, i.size, i.bytes)) = some (some (.int .u8 0), 1, 1) := by kernel_rfl
theorem infoBuilder : (Tryz.prog.info? 120).map (·.size) = some 2 := by kernel_rfl
theorem liesBuilder : liesAt Tryz.prog Tryz.prog.depth 122 (2 / Tryz.prog.cellsOf 122) 0 120 1 = true := by kernel_rfl

set_option maxHeartbeats 1000000 in
theorem copy_used (b : Nat) (w : World) (h0 : w.cell? ⟨b, 0, none⟩ = some (.pointer (some ⟨b, 0, none⟩))) :
    Calls Tryz.prog 102 #[.pointer (some ⟨b, 0, none⟩)] w fun e w' => e = .returned (.tuple #[]) ∧ w' = w := by
  obtain ⟨j, hj, _⟩ := Option.map_eq_some_iff.1 infoBuilder
  go_enter Tryz.func102, Tryz.ntmps102
  go_wp2
  rw [Lib.run_neq_ptr_same w _ Tryz.underlying118 hj]
  go_wp2
  go_end0
  exact ⟨rfl, rfl⟩
set_option maxHeartbeats 1000000 in
theorem copy_fresh (b : Nat) (w : World) (h0 : w.cell? ⟨b, 0, none⟩ = some (.pointer none)) (hsh : w.shape? b = some (122, 2)) (hfz : w.frozen? ⟨b, 0, none⟩ = false) :
    Calls Tryz.prog 102 #[.pointer (some ⟨b, 0, none⟩)] w fun e w' => e = .returned (.tuple #[]) ∧ w' = w.setCell ⟨b, 0, none⟩ (.pointer (some ⟨b, 0, none⟩)) := by
  obtain ⟨j, hj, hjs⟩ := Option.map_eq_some_iff.1 infoBuilder
  go_enter Tryz.func102, Tryz.ntmps102
  go_wp2
  rw [Lib.run_to_unsafe w ⟨b, 0, none⟩ Tryz.underlying118 Tryz.underlying165 hj (by rw [hjs]; decide) hsh (Nat.zero_lt_succ 1)]
  simp only [Result.andThen]
  rw [Oper.upon_value]
  go_wp2
  rw [run_callFunc_extern Tryz.func112 (by kernel_rfl) (by kernel_rfl) (by kernel_rfl) (e := Extern.AbiNoEscape.same) (by kernel_rfl)]
  rw [Lib.run_noEscape]
  simp only [Result.andThen]
  rw [Oper.upon_value]
  go_wp2
  rw [Lib.run_from_unsafe w ⟨b, 0, none⟩ Tryz.underlying165 Tryz.underlying118 hj hsh liesBuilder]
  simp only [Result.andThen]
  rw [Oper.upon_value]
  go_wp2
  go_end0
  exact ⟨rfl, rfl⟩
theorem copy_any {b N : Nat} {l : List Nat} {w : World} (h : Wr w b N l) :
    Calls Tryz.prog 102 #[.pointer (some ⟨b, 0, none⟩)] w fun e w' => e = .returned (.tuple #[]) ∧ (∃ v, w'.heap[b]? = some (.cells #[.pointer (some ⟨b, 0, none⟩), v] 122 (0, 0)) ∧ w'.ownsRowF N 5 1 v l.length (dV l)) ∧ Keeps b N w w' ∧ N ≤ w'.heap.size := by
  obtain ⟨p, v, hp, hh, hv⟩ := h.is
  have c0 : w.cell? ⟨b, 0, none⟩ = some p := by rw [Lib.cell_of_heap hh]; rfl
  rcases hp with rfl | rfl
  · refine (copy_fresh b w c0 (by simp [World.shape?, hh]) (Lib.frozen_of_heap hh 0)).mono ?_
    rintro e w' ⟨rfl, rfl⟩
    refine ⟨rfl, ⟨v, by simp [World.setCell, Array.getElem?_modify, hh], ?_⟩, Keeps.set w 0 _, by simpa [World.setCell] using h.hi⟩
    refine hv.kept (row := some b) ⟨rfl, rfl, rfl, by simp [World.setCell], fun k _ hk => Below.heap_setCell _ _ _ _ (fun e => hk (by simp [e]))⟩ (Or.inr fun e => ?_)
    have := (hv.lt b e).1
    have := h.lo
    omega
  · refine (copy_used b w c0).mono ?_
    rintro e w' ⟨rfl, rfl⟩
    exact ⟨rfl, ⟨v, hh, hv⟩, Keeps.refl _ _ _, h.hi⟩

/-- behind an append the new row is laid into the writer -/
theorem Wr.put {b N : Nat} {l : List Nat} {w1 w2 : World} {v v' : Value} (hlo : b < N) (hN : N ≤ w1.heap.size) (hl : ∀ x ∈ l, x < 256) (hh : w1.heap[b]? = some (.cells #[.pointer (some ⟨b, 0, none⟩), v] 122 (0, 0)))
    (hg : w1.grownBy w2 v.ownBlock) (hv : ∀ k, v.ownBlock = some k → N ≤ k) (hown : w2.ownsRowF N 5 1 v' l.length (dV l)) : Wr (w2.setCell ⟨b, 1, none⟩ v') b N l ∧ Keeps b N w1 (w2.setCell ⟨b, 1, none⟩ v') := by
  have hb2 : w2.heap[b]? = some (.cells #[.pointer (some ⟨b, 0, none⟩), v] 122 (0, 0)) := by
    rw [hg.block b (by omega) (fun e => by have := hv b e.symm; omega)]
    exact hh
  refine ⟨⟨hlo, by simpa [World.setCell] using Nat.le_trans hN hg.size, hl, _, v', Or.inr rfl, by simp [World.setCell, Array.getElem?_modify, hb2], ?_⟩, (Keeps.grown hg hN hv).trans (Keeps.set _ 1 _)⟩
  refine hown.kept (row := some b) ⟨rfl, rfl, rfl, by simp [World.setCell], fun k _ hk => Below.heap_setCell _ _ _ _ (fun e => hk (by simp [e]))⟩ (Or.inr fun e => ?_)
  have := (hown.lt b e).1
  omega
set_option maxHeartbeats 2000000 in
theorem byte_any {b N : Nat} {l : List Nat} {w : World} (h : Wr w b N l) (c : Nat) (hc : c < 256) (hl : l.length + 1 ≤ 1099511627776) :
    Calls Tryz.prog 100 #[.pointer (some ⟨b, 0, none⟩), .int .u8 (c : Int)] w fun e w' => e = .returned .nilIface ∧ Wr w' b N (l ++ [c]) ∧ Keeps b N w w' := by
  obtain ⟨i0, hi, hz0, hz1, hz2⟩ := info_parts infoB
  have hlo := h.lo; have hhi := h.hi
  have HL := Lib.hid h.lt
  go_enter Tryz.func100, Tryz.ntmps100
  go_wp2_with fail
  refine (copy_any h).mono ?_
  rintro e w1 ⟨rfl, ⟨v, hh, hown⟩, k1, s1⟩
  clear h
  have c1 : w1.cell? ⟨b, 1, none⟩ = some v := by rw [Lib.cell_of_heap hh]; rfl
  have c0 : w1.cell? ⟨b, 0, none⟩ = some (.pointer (some ⟨b, 0, none⟩)) := by rw [Lib.cell_of_heap hh]; rfl
  go_wp2_with (at_builtin; refine wpList_append_ownF _ rfl _ _ 87 rfl N 5 i0 (.int .u8 0) 1 1 Tryz.underlying87 hi hz0 hz1 hz2 rfl (by decide) _ _ _ rfl (hown.alloc _) ⟨w1.heap.size, 0, none⟩ 1 1 [.int .u8 (c : Int)] rfl rfl ?c1 ?c2 ?c3 ?c4 ?c5 ?_)
  case c1 =>
    intro j u hj
    match j, hj with
    | 0, hj => simp at hj; subst hj; simp [Addr.add]
  case c2 => intro u hu; simp at hu; subst hu; rfl
  case c3 => unfold maxLen; omega
  case c4 => omega
  case c5 => simp; omega
  intro v' w2 hown' hgrow _
  have hvN : ∀ k, v.ownBlock = some k → N ≤ k := fun k hk => (hown.lt k hk).1
  have ha : (w1.alloc (.cells #[.int .u8 (c : Int)] 5)).heap[b]? = some (.cells #[.pointer (some ⟨b, 0, none⟩), v] 122 (0, 0)) := by
    rw [Lib.alloc_old w1 _ b (by omega)]; exact hh
  obtain ⟨W2, K2⟩ := Wr.put (l := l ++ [c]) hlo (by simp; omega) (by
    intro x hx
    rcases List.mem_append.1 hx with h | h
    · exact HL.out x h
    · simp at h; subst h; exact hc) ha hgrow hvN (by simpa [dV] using hown')
  have hb2 : w2.heap[b]? = some (.cells #[.pointer (some ⟨b, 0, none⟩), v] 122 (0, 0)) := by
    rw [hgrow.block b (by simp; omega) (fun e => by have := hvN b e.symm; omega)]
    exact ha
  have d0 : w2.cell? ⟨b, 0, none⟩ = some (.pointer (some ⟨b, 0, none⟩)) := by rw [Lib.cell_of_heap hb2]; rfl
  have d1 : w2.cell? ⟨b, 1, none⟩ = some v := by rw [Lib.cell_of_heap hb2]; rfl
  have f1 : w2.frozen? ⟨b, 1, none⟩ = false := Lib.frozen_of_heap hb2 1
  obtain ⟨g, cap, rfl⟩ : ∃ g cap, v' = .slice (some ⟨g, 0, none⟩) (l.length + 1) cap := by
    rcases hown'.2 with ⟨_, h0⟩ | ⟨g, cap, cur, fz, hv, _⟩
    · omega
    · exact ⟨g, cap, hv⟩
  have K3 := (k1.trans (Keeps.of_below ((Below.refl N _).alloc (by omega) (.cells #[.int .u8 (c : Int)] 5)))).trans K2
  clear hown' hown hgrow K2 k1
  go_wp2
  go_ret
  exact ⟨rfl, W2, K3⟩
set_option maxHeartbeats 2000000 in
theorem string_any {b N : Nat} {l : List Nat} {w : World} (h : Wr w b N l) (s : ByteArray) (hl : l.length + s.size ≤ 1099511627776) :
    Calls Tryz.prog 84 #[.pointer (some ⟨b, 0, none⟩), .string s] w fun e w' => e = .returned (.tuple #[.int .i64 s.size, .nilIface]) ∧ Wr w' b N (l ++ bl s) ∧ Keeps b N w w' := by
  obtain ⟨i0, hi, hz0, hz1, hz2⟩ := info_parts infoB
  have hlo := h.lo; have hhi := h.hi
  have HL := Lib.hid h.lt
  have hss : s.size ≤ 9223372036854775807 := by omega
  go_enter Tryz.func84, Tryz.ntmps84
  go_wp2_with fail
  refine (copy_any h).mono ?_
  rintro e w1 ⟨rfl, ⟨v, hh, hown⟩, k1, s1⟩
  clear h
  have c1 : w1.cell? ⟨b, 1, none⟩ = some v := by rw [Lib.cell_of_heap hh]; rfl
  have c0 : w1.cell? ⟨b, 0, none⟩ = some (.pointer (some ⟨b, 0, none⟩)) := by rw [Lib.cell_of_heap hh]; rfl
  go_wp2_with (at_builtin; refine Lib.wpList_append_own_stringF _ rfl _ _ 87 9 rfl N 5 i0 Tryz.underlying87 Tryz.underlying9 hi hz0 hz1 hz2 _ _ _ rfl hown s rfl ?c3 ?c4 ?c5 ?_)
  case c3 => unfold maxLen; omega
  case c4 => omega
  case c5 => omega
  intro v' w2 hown' hgrow _
  have hvN : ∀ k, v.ownBlock = some k → N ≤ k := fun k hk => (hown.lt k hk).1
  have e5 : dV l ++ Lib.strCells s = dV (l ++ bl s) := by
    simp [dV, bl, Lib.strCells, List.map_append, List.map_map, Function.comp]
  rw [e5] at hown'
  obtain ⟨W2, K2⟩ := Wr.put (l := l ++ bl s) hlo (by omega) (by
    intro x hx
    rcases List.mem_append.1 hx with h | h
    · exact HL.out x h
    · exact bl_lt s x h) hh hgrow hvN (by simpa [bl_len] using hown')
  have hb2 : w2.heap[b]? = some (.cells #[.pointer (some ⟨b, 0, none⟩), v] 122 (0, 0)) := by
    rw [hgrow.block b (by omega) (fun e => by have := hvN b e.symm; omega)]
    exact hh
  have d0 : w2.cell? ⟨b, 0, none⟩ = some (.pointer (some ⟨b, 0, none⟩)) := by rw [Lib.cell_of_heap hb2]; rfl
  have d1 : w2.cell? ⟨b, 1, none⟩ = some v := by rw [Lib.cell_of_heap hb2]; rfl
  have f1 : w2.frozen? ⟨b, 1, none⟩ = false := Lib.frozen_of_heap hb2 1
  obtain ⟨ao, n', cap, rfl⟩ : ∃ ao n' cap, v' = .slice ao n' cap := by
    rcases hown'.2 with ⟨hv, _⟩ | ⟨g, cap, cur, fz, hv, _⟩
    · exact ⟨_, _, _, hv⟩
    · exact ⟨_, _, _, hv⟩
  have K3 := k1.trans K2
  clear hown' hown hgrow K2 k1
  go_wp2
  go_ret2
  exact ⟨rfl, W2, K3⟩
set_option maxHeartbeats 2000000 in
/-- Write: of a row of bytes that lies in another block -/
theorem bytes_any {b N : Nat} {l : List Nat} {w : World} (h : Wr w b N l) {a : Addr} {cap : Nat} {q : List Nat} (hq : ∀ x ∈ q, x < 256) (ha : a.block ≠ b) (hB : a.block < N) (hcell : ∀ j u, (dV q)[j]? = some u → w.cell? (a.add j) = some u) (hl : l.length + q.length ≤ 1099511627776) :
    Calls Tryz.prog 99 #[.pointer (some ⟨b, 0, none⟩), .slice (some a) q.length cap] w fun e w' => e = .returned (.tuple #[.int .i64 q.length, .nilIface]) ∧ Wr w' b N (l ++ q) ∧ Keeps b N w w' := by
  obtain ⟨i0, hi, hz0, hz1, hz2⟩ := info_parts infoB
  have hlo := h.lo; have hhi := h.hi
  have HL := Lib.hid h.lt
  have HC := Lib.hid hcell
  clear hcell
  go_enter Tryz.func99, Tryz.ntmps99
  go_wp2_with fail
  refine (copy_any h).mono ?_
  rintro e w1 ⟨rfl, ⟨v, hh, hown⟩, k1, s1⟩
  clear h
  have c1 : w1.cell? ⟨b, 1, none⟩ = some v := by rw [Lib.cell_of_heap hh]; rfl
  have c0 : w1.cell? ⟨b, 0, none⟩ = some (.pointer (some ⟨b, 0, none⟩)) := by rw [Lib.cell_of_heap hh]; rfl
  have hnews : ∀ j u, (dV q)[j]? = some u → w1.cell? (a.add j) = some u := fun j u hj => by
    rw [World.cell?_of_block (w := w) (by rw [add_block]; exact k1.block _ hB ha)]
    exact HC.out j u hj
  have HN := Lib.hid hnews
  clear hnews
  go_wp2_with (at_builtin; refine wpList_append_ownF _ rfl _ _ 87 rfl N 5 i0 (.int .u8 0) 1 1 Tryz.underlying87 hi hz0 hz1 hz2 rfl (by decide) _ _ _ rfl hown a q.length cap (dV q) rfl (by simp [dV_len]) HN.out (dV_one q) ?c3 ?c4 ?c5 ?_)
  case c3 => unfold maxLen; omega
  case c4 => omega
  case c5 => omega
  intro v' w2 hown' hgrow _
  have hvN : ∀ k, v.ownBlock = some k → N ≤ k := fun k hk => (hown.lt k hk).1
  obtain ⟨W2, K2⟩ := Wr.put (l := l ++ q) hlo (by omega) (by
    intro x hx
    rcases List.mem_append.1 hx with h | h
    · exact HL.out x h
    · exact hq x h) hh hgrow hvN (by simpa [dV] using hown')
  have hb2 : w2.heap[b]? = some (.cells #[.pointer (some ⟨b, 0, none⟩), v] 122 (0, 0)) := by
    rw [hgrow.block b (by omega) (fun e => by have := hvN b e.symm; omega)]
    exact hh
  have d0 : w2.cell? ⟨b, 0, none⟩ = some (.pointer (some ⟨b, 0, none⟩)) := by rw [Lib.cell_of_heap hb2]; rfl
  have d1 : w2.cell? ⟨b, 1, none⟩ = some v := by rw [Lib.cell_of_heap hb2]; rfl
  have f1 : w2.frozen? ⟨b, 1, none⟩ = false := Lib.frozen_of_heap hb2 1
  obtain ⟨ao, n', cap', rfl⟩ : ∃ ao n' cap, v' = .slice ao n' cap := by
    rcases hown'.2 with ⟨hv, _⟩ | ⟨g, cap, cur, fz, hv, _⟩
    · exact ⟨_, _, _, hv⟩
    · exact ⟨_, _, _, hv⟩
  have K3 := k1.trans K2
  clear hown' hown hgrow K2 k1
  go_wp2
  go_ret2
  exact ⟨rfl, W2, K3⟩
set_option maxHeartbeats 1000000 in
theorem len_any {b N : Nat} {l : List Nat} {w : World} (h : Wr w b N l) :
    Calls Tryz.prog 75 #[.pointer (some ⟨b, 0, none⟩)] w fun e w' => e = .returned (.int .i64 l.length) ∧ w' = w := by
  obtain ⟨p, v, hp, hh, hv⟩ := h.is
  obtain ⟨ao, cap, rfl⟩ : ∃ ao cap, v = .slice ao l.length cap := by
    rcases hv.2 with ⟨hv, h0⟩ | ⟨g, cap, cur, fz, hv, _⟩
    · exact ⟨none, 0, by rw [hv, h0]⟩
    · exact ⟨_, _, hv⟩
  have c1 : w.cell? ⟨b, 1, none⟩ = some (.slice ao l.length cap) := by rw [Lib.cell_of_heap hh]; rfl
  clear h hh hv hp
  go_enter Tryz.func75, Tryz.ntmps75
  go_wp2
  go_ret
  exact ⟨rfl, rfl⟩
theorem dV_bytes {l : List Nat} (h : ∀ x ∈ l, x < 256) : dV l = Lib.byteCells (l.map UInt8.ofNat) := by
  rw [dV, Lib.byteCells, List.map_map]
  apply List.map_congr_left
  intro x hx
  have := h x hx
  simp [Nat.mod_eq_of_lt this]
theorem keeps_freeze {b N g : Nat} (w : World) (n : Nat) (hg : N ≤ g) : Keeps b N w (w.freeze ⟨g, 0, none⟩ n) := Keeps.of_below (Lib.below_freeze (Below.refl N w) (p := ⟨g, 0, none⟩) hg n)
set_option maxHeartbeats 2000000 in
/-- String: of a writer that holds at least one byte -/
theorem text_any {b N : Nat} {l : List Nat} {w : World} (h : Wr w b N l) (h0 : l ≠ []) (hl : l.length ≤ 1099511627776) :
    Calls Tryz.prog 76 #[.pointer (some ⟨b, 0, none⟩)] w fun e w' => e = .returned (.string (strOf l)) ∧ Wr w' b N l ∧ Keeps b N w w' := by
  obtain ⟨p, v, hp, hh, hv⟩ := h.is
  have hl0 : l.length ≠ 0 := by simpa using h0
  obtain ⟨g, cap, cur, fz, rfl, hbg, hg, hfz, hnc, hcm, hcs, htake⟩ : ∃ g cap cur fz, v = .slice (some ⟨g, 0, none⟩) l.length cap ∧ N ≤ g ∧ w.heap[g]? = some (.cells cur 5 fz) ∧ fz.2 ≤ l.length * 1 ∧ l.length ≤ cap ∧ cap ≤ maxLen ∧ cur.size = cap * 1 ∧ cur.toList.take (l.length * 1) = dV l := by
    rcases hv.2 with ⟨_, hz⟩ | ⟨g, cap, cur, fz, hv, r⟩
    · exact absurd hz hl0
    · exact ⟨g, cap, cur, fz, hv, r⟩
  have c1 : w.drew.cell? ⟨b, 1, none⟩ = some (.slice (some ⟨g, 0, none⟩) l.length cap) := by
    have : w.drew.heap[b]? = some (.cells #[p, .slice (some ⟨g, 0, none⟩) l.length cap] 122 (0, 0)) := hh
    rw [Lib.cell_of_heap this]; rfl
  have hSD : (Builtin.unsafeSliceData_ #[87] 155 #[.slice (some ⟨g, 0, none⟩) l.length cap]).run Tryz.prog w.drew = .ok (.pointer (some ⟨g, 0, none⟩)) w.drew :=
    Lib.run_unsafeSliceData_row _ _ _ _ _ _ (by omega)
  have hUS : (Builtin.unsafeString_ #[155, 3] 9 #[.pointer (some ⟨g, 0, none⟩), .int .i64 l.length]).run Tryz.prog w.drew = .ok (.string (strOf l)) (w.drew.freeze ⟨g, 0, none⟩ l.length) := by
    have := Lib.run_unsafeString_row (P := Tryz.prog) w.drew 155 3 9 5 Tryz.underlying155 (by kernel_rfl) g cur.size (by have hg' : w.drew.heap[g]? = some (.cells cur 5 fz) := hg; simp [World.shape?, hg']) (l.map UInt8.ofNat) (by simpa using h0) (by simp; omega) (by simp; omega) (by
      intro j x hx
      have hb := dV_bytes h.lt
      have := hv.cells (g := g) rfl j (.int .u8 x.toNat) (by rw [hb, Lib.byteCells, List.getElem?_map, hx]; rfl)
      exact this)
    rw [List.length_map] at this
    exact this
  have W2 : Wr (w.drew.freeze ⟨g, 0, none⟩ l.length) b N l := by
    have hb : Lib.BuilderAtF 122 5 b b p (dV l) w.drew := ⟨Nat.le_refl _, _, hh, by
      rw [dV_len]
      exact ⟨hv.1, .inr ⟨g, cap, cur, fz, rfl, by have := h.lo; omega, hg, hfz, hnc, hcm, hcs, htake⟩⟩, by simp [Value.ownBlock]; have := h.lo; omega⟩
    have hF := hb.froze (g := g) (cap := cap) (by rw [dV_len]; exact c1)
    rw [dV_len] at hF
    obtain ⟨_, v2, hh2, hv2, _⟩ := hF
    refine ⟨h.lo, ?_, h.lt, p, v2, hp, hh2, ?_⟩
    · have := (keeps_freeze (b := b) (N := N) w.drew l.length hbg).size
      have h2 := h.hi
      exact Nat.le_trans h2 this
    · rw [dV_len] at hv2
      have e2 : w.drew.heap[b]? = some (.cells #[p, .slice (some ⟨g, 0, none⟩) l.length cap] 122 (0, 0)) := hh
      have e3 := (keeps_freeze (b := N) (N := N) w.drew l.length hbg).block b h.lo (by have := h.lo; omega)
      rw [hh2, e2] at e3
      have : v2 = .slice (some ⟨g, 0, none⟩) l.length cap := by simpa using e3
      subst this
      refine ⟨hv2.1, ?_⟩
      rcases hv2.2 with ⟨e4, _⟩ | ⟨g', cap', cur', fz', e4, _, r⟩
      · cases e4
      · injection e4 with e5 _ e6
        injection e5 with e7
        injection e7 with e8
        subst e8
        subst e6
        exact .inr ⟨g, cap, cur', fz', rfl, hbg, r⟩
  have K2 : Keeps b N w (w.drew.freeze ⟨g, 0, none⟩ l.length) := (Keeps.of_below ((Below.refl N w).drew)).trans (keeps_freeze w.drew l.length hbg)
  clear hv hg htake hp h
  go_enter Tryz.func76, Tryz.ntmps76
  go_wp2
  go_region
  all_goals (go_wp2; go_ret; exact ⟨rfl, W2, K2⟩)
end Go.Proofs.YtdmgobffhpgjlaaGreat.Sl
end

section
namespace Go.Proofs.YtdmgobffhpgjlaaGreat.Sl
open Go.RowKit Go.PlainAid Go.Proofs.YtdmgobffhpgjlaaGreat.Cr
set_option linter.unusedVariables false
set_option maxRecDepth 20000
set_option linter.unusedSimpArgs false

theorem be_get : ∀ (m : Nat) (n : Int) (i : Nat) (h : i < (be m n).length), (be m n)[i] = (n / 256 ^ (m - 1 - i) % 256).toNat
  | 0, n, i, h => by simp [be] at h
  | m + 1, n, 0, h => by simp [be]
  | m + 1, n, i + 1, h => by
    simp only [be, List.getElem_cons_succ]
    rw [be_get m n i, show m + 1 - 1 - (i + 1) = m - 1 - i by omega]
theorem be_snoc (m : Nat) (n : Int) (i : Nat) (h : i < m) : (be m n).take (i + 1) = (be m n).take i ++ [(n / 256 ^ (m - 1 - i) % 256).toNat] := by
  rw [List.take_succ_eq_append_getElem (by rw [be_len]; exact h), be_get]
theorem shr8 (n : Int) (t : Nat) : n / 2 ^ (8 * t) % 256 = (((n / 256 ^ t % 256).toNat : Nat) : Int) := by
  have e : (2 : Int) ^ (8 * t) = 256 ^ t := by rw [Int.pow_mul]; rfl
  rw [e]
  omega
set_option maxHeartbeats 2000000 in
theorem wnumber_any {b N : Nat} {l : List Nat} {w : World} (h : Wr w b N l) (n : Int) (m : Nat) (hm : m ≤ 8) (hl : l.length + 8 ≤ 1099511627776) :
    Calls Tryz.prog 74 #[.pointer (some ⟨b, 0, none⟩), .int .i64 n, .int .i64 (m : Int)] w fun e w' => e = .returned (.tuple #[]) ∧ Wr w' b N (l ++ be m n) ∧ Keeps b N w w' := by
  go_enter Tryz.func74, Tryz.ntmps74
  go_wp2
  go_loopw [6] (fun i wr => ∃ k : Nat, ∃ a : Int, k ≤ m ∧ a = (m : Int) - 1 - (k : Int) ∧ i = .int .i64 a ∧ Wr wr b N (l ++ (be m n).take k) ∧ Keeps b N w wr) (fun i _ => ((intOf i) + 1).toNat)
  case atStart => exact ⟨0, (m : Int) - 1, Nat.zero_le _, by omega, rfl, by rw [List.take_zero, List.append_nil]; exact h, Keeps.refl _ _ _⟩
  case round =>
    clear h
    obtain ⟨k, a, hk, ha, rfl, W1, K1⟩ := hrel
    by_cases hlt : 0 ≤ a
    · obtain ⟨t, rfl⟩ : ∃ t : Nat, a = (t : Int) := ⟨a.toNat, by omega⟩
      have BS := Lib.hid (be_snoc m n k (by omega))
      have e1 : m - 1 - k = t := by omega
      rw [e1] at BS
      have HA := Lib.hid ha
      clear ha e1
      have ht : t < 8 := by have := HA.out; omega
      have hkm : k < m := by have := HA.out; omega
      have e8 := shr8 n t
      have hc8 : (n / 256 ^ t % 256).toNat < 256 := by omega
      generalize (n / 256 ^ t % 256).toNat = c at BS e8 hc8
      have f2 : (0 : Int) ≤ 8 * (t : Int) := by omega
      have f3 : (8 * (t : Int)).toNat = 8 * t := by omega
      have f4 : min (8 * t) 64 = 8 * t := by omega
      have G1 : Hid (IntKind.i64.wrap (8 * (t : Int)) = 8 * (t : Int)) := Lib.hid (IntWalk.i64_in _ (by omega))
      have G2 : Hid (IntKind.u8.wrap (n / 2 ^ (8 * t)) = (c : Int)) := Lib.hid (by rw [IntKind.wrap_u8]; exact e8)
      clear e8
      replace W1 := W1.drew
      go_wp2
      refine wp_region_held (S := fun _ => True) (by kernel_rfl) ?_
      change wpAnyH _ _ _ _ _ _ _ _ wr.drew
      replace K1 := K1.trans (Keeps.of_below ((Below.refl N _).drew))
      generalize wr.drew = w1 at W1 K1 ⊢
      refine held_take 0 (.pointer (some ⟨b, 0, none⟩)) rfl (by kernel_rfl) (by kernel_rfl) (by kernel_rfl) (fun _ _ _ h => h) (Or.inl ⟨by rfl, fun x j => by go_simp⟩) trivial (fun K hK => ?_)
      go_simp
      refine hK _ _ ?_
      clear hK K
      refine held_take 1 (.pointer (some ⟨b, 0, none⟩)) rfl (by kernel_rfl) (by kernel_rfl) (by kernel_rfl) (fun _ _ _ h => h) (Or.inl ⟨by rfl, fun x j => by go_simp⟩) trivial (fun K hK => ?_)
      go_simp
      refine hK _ _ ?_
      clear hK K
      refine held_take 2 (.pointer (some ⟨b, 0, none⟩)) rfl (by kernel_rfl) (by kernel_rfl) (by kernel_rfl) (fun _ _ _ h => h) (Or.inl ⟨by rfl, fun x j => by go_simp⟩) trivial (fun K hK => ?_)
      go_simp
      refine hK _ _ ?_
      clear hK K
      refine held_take 3 (.int .i64 n) rfl (by kernel_rfl) (by kernel_rfl) (by kernel_rfl) (fun _ _ _ h => h) (Or.inl ⟨by rfl, fun x j => by go_simp⟩) trivial (fun K hK => ?_)
      go_simp
      refine hK _ _ ?_
      clear hK K
      refine held_take 4 (.int .i64 (t : Int)) rfl (by kernel_rfl) (by kernel_rfl) (by kernel_rfl) (fun _ _ _ h => h) (Or.inl ⟨by rfl, fun x j => by go_simp⟩) trivial (fun K hK => ?_)
      go_simp
      refine hK _ _ ?_
      clear hK K
      refine held_take 5 (.int .i64 (8 * (t : Int))) rfl (by kernel_rfl) (by kernel_rfl) (by kernel_rfl) (fun _ _ _ h => h) (Or.inl ⟨by rfl, fun x j => by go_simp; exact G1.out⟩) trivial (fun K hK => ?_)
      go_simp
      refine hK _ _ ?_
      clear hK K
      refine held_take 6 (.int .i64 (n / 2 ^ (8 * t))) rfl (by kernel_rfl) (by kernel_rfl) (by kernel_rfl) (fun _ _ _ h => h) (Or.inl ⟨by rfl, fun x j => by go_simp⟩) trivial (fun K hK => ?_)
      go_simp
      refine hK _ _ ?_
      clear hK K
      refine held_take 7 (.int .u8 ((c : Nat) : Int)) rfl (by kernel_rfl) (by kernel_rfl) (by kernel_rfl) (fun _ _ _ h => h) (Or.inl ⟨by rfl, fun x j => by go_simp; exact G2.out⟩) trivial (fun K hK => ?_)
      go_simp
      refine hK _ _ ?_
      clear hK K
      refine held_one 8 (by kernel_rfl) (fun K hK => wpOp_in rfl rfl ?_)
      go_simp
      refine (byte_any W1 c hc8 (by rw [List.length_append, List.length_take, be_len]; omega)).mono ?_
      rintro e w2 ⟨rfl, W2, K2⟩
      refine hK _ _ trivial ?_
      clear hK K
      refine wpAnyH_done (by kernel_rfl) ?_ _
      rw [List.append_assoc, ← BS.out] at W2
      have K3 := K1.trans K2
      clear W1 K1 K2 BS
      go_wp2
      go_roundw
      case rel => exact ⟨k + 1, _, by have := HA.out; omega, by have := HA.out; push_cast; omega, rfl, W2, K3⟩
      case measure => simp [intOf]
    · have hkm : k = m := by omega
      have hlt : a < 0 := by omega
      subst hkm
      rw [List.take_of_length_le (by rw [be_len]; exact Nat.le_refl _)] at W1
      clear ha
      go_wp2
      go_end0
      exact ⟨rfl, W1, K1⟩
set_option maxHeartbeats 1000000 in
theorem wtext_any {b N : Nat} {l : List Nat} {w : World} (h : Wr w b N l) (s : ByteArray) (hl : l.length + s.size + 8 ≤ 1099511627776) :
    Calls Tryz.prog 98 #[.pointer (some ⟨b, 0, none⟩), .string s] w fun e w' => e = .returned (.tuple #[]) ∧ Wr w' b N (l ++ txt s) ∧ Keeps b N w w' := by
  have hs : s.size ≤ 9223372036854775807 := by omega
  go_enter Tryz.func98, Tryz.ntmps98
  go_wp2_with fail
  refine (wnumber_any h (s.size : Int) 1 (by decide) (by omega)).mono ?_
  rintro e w2 ⟨rfl, W2, K2⟩
  clear h
  go_wp2_with fail
  refine (string_any W2 s (by rw [List.length_append, be_len]; omega)).mono ?_
  rintro e w3 ⟨rfl, W3, K3⟩
  rw [List.append_assoc] at W3
  have K4 := K2.trans K3
  clear W2 K2 K3
  go_wp2
  go_end0
  exact ⟨rfl, W3, K4⟩
theorem Can.names_le {x : Sp} (h : Can x) : x.repo.size ≤ 128 ∧ x.tag.size ≤ 128 := by
  cases e : hT x.k
  · obtain ⟨h1, h2⟩ := h.noNames e
    rw [h1, h2]
    exact ⟨by decide, by decide⟩
  · have := h.names e
    omega
theorem fresh_wr {w : World} {b M : Nat} (h : At w b 122 #[.pointer none, .slice none 0 0]) (hb : b < M) (hM : M ≤ w.heap.size) : Wr w b M [] :=
  ⟨hb, hM, by simp, .pointer none, .slice none 0 0, Or.inl rfl, h.heap, World.ownsRowF_nil _ _ _ _⟩
theorem Keeps.mono {b N M : Nat} {w w' : World} (h : Keeps b N w w') (hM : M ≤ N) : Keeps b M w w' := ⟨h.os, h.tape, h.output, h.size, fun k hk => h.block k (by omega)⟩
theorem dig_cells {w : World} {B : Nat} {x : Sp} (X : At w B 39 (slV x)) (hd : Dig x.dig) : ∀ j u, (dV x.dig)[j]? = some u → w.cell? ((⟨B, 3, none⟩ : Addr).add j) = some u := by
  intro j u hj
  rw [add_at, X.cell]
  obtain ⟨b, hb, rfl⟩ : ∃ b, x.dig[j]? = some b ∧ u = .int .u8 (b : Int) := by
    simp only [dV, List.getElem?_map, Option.map_eq_some_iff] at hj
    obtain ⟨b, h1, h2⟩ := hj
    exact ⟨b, h1, h2.symm⟩
  exact slD hd.len hb
set_option maxHeartbeats 4000000 in
theorem wslip_bind {w : World} {b : Nat} (hb : At w b 122 #[.pointer none, .slice none 0 0]) (x : Sp) (hk : x.k = 1) (hc : Can x) :
    Calls Tryz.prog 73 #[.pointer (some ⟨b, 0, none⟩), .agg (slV x)] w fun e w' => e = .returned (.tuple #[]) ∧ (∃ M, w.heap.size ≤ M ∧ Wr w' b M (bodyL x)) ∧ Keeps b w.heap.size w w' := by
  have hd := hc.dig
  obtain ⟨hn1, hn2⟩ := hc.names_le
  have hty := hc.ty
  have hbl := hb.lt
  have BODY := Lib.hid (show bodyL x = bodyL x from rfl)
  have e0 : (slV x)[0]? = some (.int .i64 1) := by rw [sl0, hk]
  have X := At.new w 39 (slV x)
  have F : Below w.heap.size w (w.alloc (.cells (slV x) 39)) := (Below.refl _ _).alloc (Nat.le_refl _) _
  have hb := hb.alloc (.cells (slV x) 39)
  go_enter Tryz.func73, Tryz.ntmps73
  go_upto_region 1 with (fail)
  obtain ⟨B, hB⟩ : ∃ B, B = w.heap.size := ⟨_, rfl⟩
  rw [← hB] at X F ⊢
  generalize w.alloc (.cells (slV x) 39) = w1 at X F hb ⊢
  have c0 : w1.cell? ⟨B, 0, none⟩ = some (.int .i64 1) := (X.cell 0).trans e0
  have HBW := Lib.hid hB
  clear hB e0
  go_wp2_with fail
  refine (layout_any 1 _).mono ?_
  rintro e w2 ⟨rfl, G⟩
  replace X := X.old G
  replace hb := hb.old G
  replace F := F.trans (G.mono (by have := F.size; have := HBW.out; omega))
  have F0 := F
  clear G c0
  obtain ⟨w3, S3, Y, G, Z3⟩ := keep (P := Tryz.prog) (ty := 146) w2 #[.bool false, .bool false, .bool false, .bool false] (layV 1) 146 (by kernel_rfl) rfl (lay_one 1)
  have X2 := X
  replace X := X.old G
  replace hb := hb.old G
  replace F := F.trans (G.mono (by have := F.size; have := HBW.out; omega))
  clear G X2
  have hBL : B < w3.heap.size ∧ b < w3.heap.size ∧ w2.heap.size < w3.heap.size ∧ B ≠ b := ⟨X.lt, hb.lt, Y.lt, by have := HBW.out; omega⟩
  have hLb : w2.heap.size ≠ b := by have := F0.size; have := HBW.out; omega
  have hMB : B ≤ w3.heap.size := by omega
  have W := fresh_wr hb hBL.2.1 (Nat.le_refl _)
  go_upto_region 2 with (refine wpl_store S3 rfl rfl rfl rfl rfl ?_)
  have K := Keeps.of_below (b := b) F
  clear F F0 S3 Z3 hb
  generalize w3.heap.size = M at hBL hMB W ⊢
  generalize w2.heap.size = L at hBL Y hLb ⊢
  obtain ⟨hBM, hbM, hLM, hBb⟩ := hBL
  have c0 : w3.cell? ⟨B, 0, none⟩ = some (.int .i64 1) := (X.cell 0).trans (by rw [sl0, hk])
  go_wp2_with fail
  refine (wnumber_any W 1 1 (by decide) (by simp only [List.length_append, List.length_nil, be_len, txt_len, hd.len]; omega)).mono ?_
  rintro e w4 ⟨rfl, W', K'⟩
  replace X := X.keeps K' hBM hBb
  replace Y := Y.keeps K' hLM hLb
  replace K := K.trans (K'.mono hMB)
  clear W K' c0
  have W := W'
  clear W'
  have c1 : w4.cell? ⟨B, 1, none⟩ = some (.string x.repo) := X.cell 1
  have y0 : w4.cell? ⟨L, 0, none⟩ = some (.bool true) := Y.cell 0
  go_wp2_with fail
  refine (wtext_any W x.repo (by simp only [List.length_append, List.length_nil, be_len, txt_len, hd.len]; omega)).mono ?_
  rintro e w5 ⟨rfl, W', K'⟩
  replace X := X.keeps K' hBM hBb
  replace Y := Y.keeps K' hLM hLb
  replace K := K.trans (K'.mono hMB)
  clear W K' c1 y0
  have W := W'
  clear W'
  have c2 : w5.cell? ⟨B, 2, none⟩ = some (.string x.tag) := X.cell 2
  go_wp2_with fail
  refine (wtext_any W x.tag (by simp only [List.length_append, List.length_nil, be_len, txt_len, hd.len]; omega)).mono ?_
  rintro e w6 ⟨rfl, W', K'⟩
  replace X := X.keeps K' hBM hBb
  replace Y := Y.keeps K' hLM hLb
  replace K := K.trans (K'.mono hMB)
  clear W K' c2
  have W := W'
  clear W'
  have y1 : w6.cell? ⟨L, 1, none⟩ = some (.bool true) := Y.cell 1
  go_upto_region 7 with (fail)
  clear y1
  refine wp_region_held (S := fun _ => True) (by kernel_rfl) ?_
  change wpAnyH _ _ _ _ _ _ _ _ w6.drew
  replace W := W.drew
  replace X := X.drew
  replace Y := Y.drew
  replace K := K.trans (Keeps.of_below ((Below.refl B _).drew))
  generalize w6.drew = wd at W X Y K ⊢
  refine held_take 0 (.pointer (some ⟨b, 0, none⟩)) rfl (by kernel_rfl) (by kernel_rfl) (by kernel_rfl) (fun _ _ _ h => h) (Or.inl ⟨by rfl, fun x j => by go_simp⟩) trivial (fun K hK => ?_)
  go_simp
  refine hK _ _ ?_
  clear hK K
  refine held_take 1 (.pointer (some ⟨b, 0, none⟩)) rfl (by kernel_rfl) (by kernel_rfl) (by kernel_rfl) (fun _ _ _ h => h) (Or.inl ⟨by rfl, fun x j => by go_simp⟩) trivial (fun K hK => ?_)
  go_simp
  refine hK _ _ ?_
  clear hK K
  refine held_take 2 (.pointer (some ⟨b, 0, none⟩)) rfl (by kernel_rfl) (by kernel_rfl) (by kernel_rfl) (fun _ _ _ h => h) (Or.inl ⟨by rfl, fun x j => by go_simp⟩) trivial (fun K hK => ?_)
  go_simp
  refine hK _ _ ?_
  clear hK K
  refine held_take 3 (.pointer (some ⟨B, 3, none⟩)) rfl (by kernel_rfl) (by kernel_rfl) (by kernel_rfl) (fun _ _ _ h => h) (Or.inl ⟨by rfl, fun x j => by go_simp⟩) trivial (fun K hK => ?_)
  go_simp
  refine hK _ _ ?_
  clear hK K
  refine held_take 4 (.slice (some ⟨B, 3, none⟩) 32 32) rfl (by kernel_rfl) (by kernel_rfl) (by kernel_rfl) (fun _ _ _ h => h) (Or.inl ⟨by rfl, fun x j => by go_simp⟩) trivial (fun K hK => ?_)
  go_simp
  refine hK _ _ ?_
  clear hK K
  refine held_one 5 (by kernel_rfl) (fun K hK => wpOp_in rfl rfl ?_)
  go_simp
  rw [show (32 : Nat) = x.dig.length from hd.len.symm]
  refine (bytes_any W (a := ⟨B, 3, none⟩) (q := x.dig) hd.lt hBb hBM (dig_cells X hd) (by simp only [List.length_append, List.length_nil, be_len, txt_len, hd.len]; omega)).mono ?_
  rintro e wz ⟨rfl, W', K'⟩
  refine hK _ _ trivial ?_
  clear hK K
  refine wpAnyH_done (by kernel_rfl) ?_ _
  replace X := X.keeps K' hBM hBb
  replace Y := Y.keeps K' hLM hLb
  replace K := K.trans (K'.mono hMB)
  clear W K'
  have W := W'
  clear W'
  generalize wz = w7 at W X Y K ⊢
  have c35 : w7.cell? ⟨B, 35, none⟩ = some (.string x.ty) := (X.cell 35).trans (sl35 hd.len)
  have y2 : w7.cell? ⟨L, 2, none⟩ = some (.bool true) := Y.cell 2
  go_wp2_with fail
  refine (wtext_any W x.ty (by simp only [List.length_append, List.length_nil, be_len, txt_len, hd.len]; omega)).mono ?_
  rintro e w8 ⟨rfl, W', K'⟩
  replace X := X.keeps K' hBM hBb
  replace Y := Y.keeps K' hLM hLb
  replace K := K.trans (K'.mono hMB)
  clear W K' c35 y2
  have W := W'
  clear W'
  have c36 : w8.cell? ⟨B, 36, none⟩ = some (.int .i64 x.sz) := (X.cell 36).trans (sl36 hd.len)
  go_wp2_with fail
  refine (wnumber_any W x.sz 8 (by decide) (by simp only [List.length_append, List.length_nil, be_len, txt_len, hd.len]; omega)).mono ?_
  rintro e w9 ⟨rfl, W', K'⟩
  replace X := X.keeps K' hBM hBb
  replace Y := Y.keeps K' hLM hLb
  replace K := K.trans (K'.mono hMB)
  clear W K' c36
  have W := W'
  clear W'
  have c37 : w9.cell? ⟨B, 37, none⟩ = some (.int .i64 x.tm) := (X.cell 37).trans (sl37 hd.len)
  have y3 : w9.cell? ⟨L, 3, none⟩ = some (.bool true) := Y.cell 3
  go_wp2_with fail
  refine (wnumber_any W x.tm 8 (by decide) (by simp only [List.length_append, List.length_nil, be_len, txt_len, hd.len]; omega)).mono ?_
  rintro e w10 ⟨rfl, W', K'⟩
  replace X := X.keeps K' hBM hBb
  replace Y := Y.keeps K' hLM hLb
  replace K := K.trans (K'.mono hMB)
  clear W K' c37 y3
  have W := W'
  clear W'
  have W9 : Wr w10 b M (bodyL x) := by
    have e : bodyL x = _ := rfl
    simp only [bodyL, pT, pD, pM, pA, hk]
    simpa [hT, hD, hM, hA, List.append_assoc] using W
  clear W
  go_wp2
  go_end0
  exact ⟨rfl, ⟨M, by have := HBW.out; omega, W9⟩, by have := HBW.out; rw [← this]; exact K⟩
set_option maxHeartbeats 4000000 in
theorem wslip_miss {w : World} {b : Nat} (hb : At w b 122 #[.pointer none, .slice none 0 0]) (x : Sp) (hk : x.k = 2) (hc : Can x) :
    Calls Tryz.prog 73 #[.pointer (some ⟨b, 0, none⟩), .agg (slV x)] w fun e w' => e = .returned (.tuple #[]) ∧ (∃ M, w.heap.size ≤ M ∧ Wr w' b M (bodyL x)) ∧ Keeps b w.heap.size w w' := by
  have hd := hc.dig
  obtain ⟨hn1, hn2⟩ := hc.names_le
  have hty := hc.ty
  have hbl := hb.lt
  have BODY := Lib.hid (show bodyL x = bodyL x from rfl)
  have e0 : (slV x)[0]? = some (.int .i64 2) := by rw [sl0, hk]
  have X := At.new w 39 (slV x)
  have F : Below w.heap.size w (w.alloc (.cells (slV x) 39)) := (Below.refl _ _).alloc (Nat.le_refl _) _
  have hb := hb.alloc (.cells (slV x) 39)
  go_enter Tryz.func73, Tryz.ntmps73
  go_upto_region 1 with (fail)
  obtain ⟨B, hB⟩ : ∃ B, B = w.heap.size := ⟨_, rfl⟩
  rw [← hB] at X F ⊢
  generalize w.alloc (.cells (slV x) 39) = w1 at X F hb ⊢
  have c0 : w1.cell? ⟨B, 0, none⟩ = some (.int .i64 2) := (X.cell 0).trans e0
  have HBW := Lib.hid hB
  clear hB e0
  go_wp2_with fail
  refine (layout_any 2 _).mono ?_
  rintro e w2 ⟨rfl, G⟩
  replace X := X.old G
  replace hb := hb.old G
  replace F := F.trans (G.mono (by have := F.size; have := HBW.out; omega))
  have F0 := F
  clear G c0
  obtain ⟨w3, S3, Y, G, Z3⟩ := keep (P := Tryz.prog) (ty := 146) w2 #[.bool false, .bool false, .bool false, .bool false] (layV 2) 146 (by kernel_rfl) rfl (lay_one 2)
  have X2 := X
  replace X := X.old G
  replace hb := hb.old G
  replace F := F.trans (G.mono (by have := F.size; have := HBW.out; omega))
  clear G X2
  have hBL : B < w3.heap.size ∧ b < w3.heap.size ∧ w2.heap.size < w3.heap.size ∧ B ≠ b := ⟨X.lt, hb.lt, Y.lt, by have := HBW.out; omega⟩
  have hLb : w2.heap.size ≠ b := by have := F0.size; have := HBW.out; omega
  have hMB : B ≤ w3.heap.size := by omega
  have W := fresh_wr hb hBL.2.1 (Nat.le_refl _)
  go_upto_region 2 with (refine wpl_store S3 rfl rfl rfl rfl rfl ?_)
  have K := Keeps.of_below (b := b) F
  clear F F0 S3 Z3 hb
  generalize w3.heap.size = M at hBL hMB W ⊢
  generalize w2.heap.size = L at hBL Y hLb ⊢
  obtain ⟨hBM, hbM, hLM, hBb⟩ := hBL
  have c0 : w3.cell? ⟨B, 0, none⟩ = some (.int .i64 2) := (X.cell 0).trans (by rw [sl0, hk])
  go_wp2_with fail
  refine (wnumber_any W 2 1 (by decide) (by simp only [List.length_append, List.length_nil, be_len, txt_len, hd.len]; omega)).mono ?_
  rintro e w4 ⟨rfl, W', K'⟩
  replace X := X.keeps K' hBM hBb
  replace Y := Y.keeps K' hLM hLb
  replace K := K.trans (K'.mono hMB)
  clear W K' c0
  have W := W'
  clear W'
  have c1 : w4.cell? ⟨B, 1, none⟩ = some (.string x.repo) := X.cell 1
  have y0 : w4.cell? ⟨L, 0, none⟩ = some (.bool true) := Y.cell 0
  go_wp2_with fail
  refine (wtext_any W x.repo (by simp only [List.length_append, List.length_nil, be_len, txt_len, hd.len]; omega)).mono ?_
  rintro e w5 ⟨rfl, W', K'⟩
  replace X := X.keeps K' hBM hBb
  replace Y := Y.keeps K' hLM hLb
  replace K := K.trans (K'.mono hMB)
  clear W K' c1 y0
  have W := W'
  clear W'
  have c2 : w5.cell? ⟨B, 2, none⟩ = some (.string x.tag) := X.cell 2
  go_wp2_with fail
  refine (wtext_any W x.tag (by simp only [List.length_append, List.length_nil, be_len, txt_len, hd.len]; omega)).mono ?_
  rintro e w6 ⟨rfl, W', K'⟩
  replace X := X.keeps K' hBM hBb
  replace Y := Y.keeps K' hLM hLb
  replace K := K.trans (K'.mono hMB)
  clear W K' c2
  have W := W'
  clear W'
  have c37 : w6.cell? ⟨B, 37, none⟩ = some (.int .i64 x.tm) := (X.cell 37).trans (sl37 hd.len)
  have y1 : w6.cell? ⟨L, 1, none⟩ = some (.bool false) := Y.cell 1
  have y2 : w6.cell? ⟨L, 2, none⟩ = some (.bool false) := Y.cell 2
  have y3 : w6.cell? ⟨L, 3, none⟩ = some (.bool true) := Y.cell 3
  go_wp2_with fail
  refine (wnumber_any W x.tm 8 (by decide) (by simp only [List.length_append, List.length_nil, be_len, txt_len, hd.len]; omega)).mono ?_
  rintro e w7 ⟨rfl, W', K'⟩
  replace X := X.keeps K' hBM hBb
  replace Y := Y.keeps K' hLM hLb
  replace K := K.trans (K'.mono hMB)
  clear W K' c37 y1 y2 y3
  have W := W'
  clear W'
  have W9 : Wr w7 b M (bodyL x) := by
    have e : bodyL x = _ := rfl
    simp only [bodyL, pT, pD, pM, pA, hk]
    simpa [hT, hD, hM, hA, List.append_assoc] using W
  clear W
  go_wp2
  go_end0
  exact ⟨rfl, ⟨M, by have := HBW.out; omega, W9⟩, by have := HBW.out; rw [← this]; exact K⟩
set_option maxHeartbeats 4000000 in
theorem wslip_drop {w : World} {b : Nat} (hb : At w b 122 #[.pointer none, .slice none 0 0]) (x : Sp) (hk : x.k = 3) (hc : Can x) :
    Calls Tryz.prog 73 #[.pointer (some ⟨b, 0, none⟩), .agg (slV x)] w fun e w' => e = .returned (.tuple #[]) ∧ (∃ M, w.heap.size ≤ M ∧ Wr w' b M (bodyL x)) ∧ Keeps b w.heap.size w w' := by
  have hd := hc.dig
  obtain ⟨hn1, hn2⟩ := hc.names_le
  have hty := hc.ty
  have hbl := hb.lt
  have BODY := Lib.hid (show bodyL x = bodyL x from rfl)
  have e0 : (slV x)[0]? = some (.int .i64 3) := by rw [sl0, hk]
  have X := At.new w 39 (slV x)
  have F : Below w.heap.size w (w.alloc (.cells (slV x) 39)) := (Below.refl _ _).alloc (Nat.le_refl _) _
  have hb := hb.alloc (.cells (slV x) 39)
  go_enter Tryz.func73, Tryz.ntmps73
  go_upto_region 1 with (fail)
  obtain ⟨B, hB⟩ : ∃ B, B = w.heap.size := ⟨_, rfl⟩
  rw [← hB] at X F ⊢
  generalize w.alloc (.cells (slV x) 39) = w1 at X F hb ⊢
  have c0 : w1.cell? ⟨B, 0, none⟩ = some (.int .i64 3) := (X.cell 0).trans e0
  have HBW := Lib.hid hB
  clear hB e0
  go_wp2_with fail
  refine (layout_any 3 _).mono ?_
  rintro e w2 ⟨rfl, G⟩
  replace X := X.old G
  replace hb := hb.old G
  replace F := F.trans (G.mono (by have := F.size; have := HBW.out; omega))
  have F0 := F
  clear G c0
  obtain ⟨w3, S3, Y, G, Z3⟩ := keep (P := Tryz.prog) (ty := 146) w2 #[.bool false, .bool false, .bool false, .bool false] (layV 3) 146 (by kernel_rfl) rfl (lay_one 3)
  have X2 := X
  replace X := X.old G
  replace hb := hb.old G
  replace F := F.trans (G.mono (by have := F.size; have := HBW.out; omega))
  clear G X2
  have hBL : B < w3.heap.size ∧ b < w3.heap.size ∧ w2.heap.size < w3.heap.size ∧ B ≠ b := ⟨X.lt, hb.lt, Y.lt, by have := HBW.out; omega⟩
  have hLb : w2.heap.size ≠ b := by have := F0.size; have := HBW.out; omega
  have hMB : B ≤ w3.heap.size := by omega
  have W := fresh_wr hb hBL.2.1 (Nat.le_refl _)
  go_upto_region 2 with (refine wpl_store S3 rfl rfl rfl rfl rfl ?_)
  have K := Keeps.of_below (b := b) F
  clear F F0 S3 Z3 hb
  generalize w3.heap.size = M at hBL hMB W ⊢
  generalize w2.heap.size = L at hBL Y hLb ⊢
  obtain ⟨hBM, hbM, hLM, hBb⟩ := hBL
  have c0 : w3.cell? ⟨B, 0, none⟩ = some (.int .i64 3) := (X.cell 0).trans (by rw [sl0, hk])
  go_wp2_with fail
  refine (wnumber_any W 3 1 (by decide) (by simp only [List.length_append, List.length_nil, be_len, txt_len, hd.len]; omega)).mono ?_
  rintro e w4 ⟨rfl, W', K'⟩
  replace X := X.keeps K' hBM hBb
  replace Y := Y.keeps K' hLM hLb
  replace K := K.trans (K'.mono hMB)
  clear W K' c0
  have W := W'
  clear W'
  have c1 : w4.cell? ⟨B, 1, none⟩ = some (.string x.repo) := X.cell 1
  have y0 : w4.cell? ⟨L, 0, none⟩ = some (.bool true) := Y.cell 0
  go_wp2_with fail
  refine (wtext_any W x.repo (by simp only [List.length_append, List.length_nil, be_len, txt_len, hd.len]; omega)).mono ?_
  rintro e w5 ⟨rfl, W', K'⟩
  replace X := X.keeps K' hBM hBb
  replace Y := Y.keeps K' hLM hLb
  replace K := K.trans (K'.mono hMB)
  clear W K' c1 y0
  have W := W'
  clear W'
  have c2 : w5.cell? ⟨B, 2, none⟩ = some (.string x.tag) := X.cell 2
  go_wp2_with fail
  refine (wtext_any W x.tag (by simp only [List.length_append, List.length_nil, be_len, txt_len, hd.len]; omega)).mono ?_
  rintro e w6 ⟨rfl, W', K'⟩
  replace X := X.keeps K' hBM hBb
  replace Y := Y.keeps K' hLM hLb
  replace K := K.trans (K'.mono hMB)
  clear W K' c2
  have W := W'
  clear W'
  have y1 : w6.cell? ⟨L, 1, none⟩ = some (.bool false) := Y.cell 1
  have y2 : w6.cell? ⟨L, 2, none⟩ = some (.bool false) := Y.cell 2
  have y3 : w6.cell? ⟨L, 3, none⟩ = some (.bool false) := Y.cell 3
  have W9 : Wr w6 b M (bodyL x) := by
    have e : bodyL x = _ := rfl
    simp only [bodyL, pT, pD, pM, pA, hk]
    simpa [hT, hD, hM, hA, List.append_assoc] using W
  clear W
  go_wp2
  go_end0
  exact ⟨rfl, ⟨M, by have := HBW.out; omega, W9⟩, by have := HBW.out; rw [← this]; exact K⟩
set_option maxHeartbeats 4000000 in
theorem wslip_blob {w : World} {b : Nat} (hb : At w b 122 #[.pointer none, .slice none 0 0]) (x : Sp) (hk : x.k = 4) (hc : Can x) :
    Calls Tryz.prog 73 #[.pointer (some ⟨b, 0, none⟩), .agg (slV x)] w fun e w' => e = .returned (.tuple #[]) ∧ (∃ M, w.heap.size ≤ M ∧ Wr w' b M (bodyL x)) ∧ Keeps b w.heap.size w w' := by
  have hd := hc.dig
  obtain ⟨hn1, hn2⟩ := hc.names_le
  have hty := hc.ty
  have hbl := hb.lt
  have BODY := Lib.hid (show bodyL x = bodyL x from rfl)
  have e0 : (slV x)[0]? = some (.int .i64 4) := by rw [sl0, hk]
  have X := At.new w 39 (slV x)
  have F : Below w.heap.size w (w.alloc (.cells (slV x) 39)) := (Below.refl _ _).alloc (Nat.le_refl _) _
  have hb := hb.alloc (.cells (slV x) 39)
  go_enter Tryz.func73, Tryz.ntmps73
  go_upto_region 1 with (fail)
  obtain ⟨B, hB⟩ : ∃ B, B = w.heap.size := ⟨_, rfl⟩
  rw [← hB] at X F ⊢
  generalize w.alloc (.cells (slV x) 39) = w1 at X F hb ⊢
  have c0 : w1.cell? ⟨B, 0, none⟩ = some (.int .i64 4) := (X.cell 0).trans e0
  have HBW := Lib.hid hB
  clear hB e0
  go_wp2_with fail
  refine (layout_any 4 _).mono ?_
  rintro e w2 ⟨rfl, G⟩
  replace X := X.old G
  replace hb := hb.old G
  replace F := F.trans (G.mono (by have := F.size; have := HBW.out; omega))
  have F0 := F
  clear G c0
  obtain ⟨w3, S3, Y, G, Z3⟩ := keep (P := Tryz.prog) (ty := 146) w2 #[.bool false, .bool false, .bool false, .bool false] (layV 4) 146 (by kernel_rfl) rfl (lay_one 4)
  have X2 := X
  replace X := X.old G
  replace hb := hb.old G
  replace F := F.trans (G.mono (by have := F.size; have := HBW.out; omega))
  clear G X2
  have hBL : B < w3.heap.size ∧ b < w3.heap.size ∧ w2.heap.size < w3.heap.size ∧ B ≠ b := ⟨X.lt, hb.lt, Y.lt, by have := HBW.out; omega⟩
  have hLb : w2.heap.size ≠ b := by have := F0.size; have := HBW.out; omega
  have hMB : B ≤ w3.heap.size := by omega
  have W := fresh_wr hb hBL.2.1 (Nat.le_refl _)
  go_upto_region 2 with (refine wpl_store S3 rfl rfl rfl rfl rfl ?_)
  have K := Keeps.of_below (b := b) F
  clear F F0 S3 Z3 hb
  generalize w3.heap.size = M at hBL hMB W ⊢
  generalize w2.heap.size = L at hBL Y hLb ⊢
  obtain ⟨hBM, hbM, hLM, hBb⟩ := hBL
  have c0 : w3.cell? ⟨B, 0, none⟩ = some (.int .i64 4) := (X.cell 0).trans (by rw [sl0, hk])
  go_wp2_with fail
  refine (wnumber_any W 4 1 (by decide) (by simp only [List.length_append, List.length_nil, be_len, txt_len, hd.len]; omega)).mono ?_
  rintro e w4 ⟨rfl, W', K'⟩
  replace X := X.keeps K' hBM hBb
  replace Y := Y.keeps K' hLM hLb
  replace K := K.trans (K'.mono hMB)
  clear W K' c0
  have W := W'
  clear W'
  have y0 : w4.cell? ⟨L, 0, none⟩ = some (.bool false) := Y.cell 0
  have y1 : w4.cell? ⟨L, 1, none⟩ = some (.bool true) := Y.cell 1
  go_upto_region 7 with (fail)
  clear y0 y1
  refine wp_region_held (S := fun _ => True) (by kernel_rfl) ?_
  change wpAnyH _ _ _ _ _ _ _ _ w4.drew
  replace W := W.drew
  replace X := X.drew
  replace Y := Y.drew
  replace K := K.trans (Keeps.of_below ((Below.refl B _).drew))
  generalize w4.drew = wd at W X Y K ⊢
  refine held_take 0 (.pointer (some ⟨b, 0, none⟩)) rfl (by kernel_rfl) (by kernel_rfl) (by kernel_rfl) (fun _ _ _ h => h) (Or.inl ⟨by rfl, fun x j => by go_simp⟩) trivial (fun K hK => ?_)
  go_simp
  refine hK _ _ ?_
  clear hK K
  refine held_take 1 (.pointer (some ⟨b, 0, none⟩)) rfl (by kernel_rfl) (by kernel_rfl) (by kernel_rfl) (fun _ _ _ h => h) (Or.inl ⟨by rfl, fun x j => by go_simp⟩) trivial (fun K hK => ?_)
  go_simp
  refine hK _ _ ?_
  clear hK K
  refine held_take 2 (.pointer (some ⟨b, 0, none⟩)) rfl (by kernel_rfl) (by kernel_rfl) (by kernel_rfl) (fun _ _ _ h => h) (Or.inl ⟨by rfl, fun x j => by go_simp⟩) trivial (fun K hK => ?_)
  go_simp
  refine hK _ _ ?_
  clear hK K
  refine held_take 3 (.pointer (some ⟨B, 3, none⟩)) rfl (by kernel_rfl) (by kernel_rfl) (by kernel_rfl) (fun _ _ _ h => h) (Or.inl ⟨by rfl, fun x j => by go_simp⟩) trivial (fun K hK => ?_)
  go_simp
  refine hK _ _ ?_
  clear hK K
  refine held_take 4 (.slice (some ⟨B, 3, none⟩) 32 32) rfl (by kernel_rfl) (by kernel_rfl) (by kernel_rfl) (fun _ _ _ h => h) (Or.inl ⟨by rfl, fun x j => by go_simp⟩) trivial (fun K hK => ?_)
  go_simp
  refine hK _ _ ?_
  clear hK K
  refine held_one 5 (by kernel_rfl) (fun K hK => wpOp_in rfl rfl ?_)
  go_simp
  rw [show (32 : Nat) = x.dig.length from hd.len.symm]
  refine (bytes_any W (a := ⟨B, 3, none⟩) (q := x.dig) hd.lt hBb hBM (dig_cells X hd) (by simp only [List.length_append, List.length_nil, be_len, txt_len, hd.len]; omega)).mono ?_
  rintro e wz ⟨rfl, W', K'⟩
  refine hK _ _ trivial ?_
  clear hK K
  refine wpAnyH_done (by kernel_rfl) ?_ _
  replace X := X.keeps K' hBM hBb
  replace Y := Y.keeps K' hLM hLb
  replace K := K.trans (K'.mono hMB)
  clear W K'
  have W := W'
  clear W'
  generalize wz = w5 at W X Y K ⊢
  have c35 : w5.cell? ⟨B, 35, none⟩ = some (.string x.ty) := (X.cell 35).trans (sl35 hd.len)
  have y2 : w5.cell? ⟨L, 2, none⟩ = some (.bool true) := Y.cell 2
  go_wp2_with fail
  refine (wtext_any W x.ty (by simp only [List.length_append, List.length_nil, be_len, txt_len, hd.len]; omega)).mono ?_
  rintro e w6 ⟨rfl, W', K'⟩
  replace X := X.keeps K' hBM hBb
  replace Y := Y.keeps K' hLM hLb
  replace K := K.trans (K'.mono hMB)
  clear W K' c35 y2
  have W := W'
  clear W'
  have c36 : w6.cell? ⟨B, 36, none⟩ = some (.int .i64 x.sz) := (X.cell 36).trans (sl36 hd.len)
  go_wp2_with fail
  refine (wnumber_any W x.sz 8 (by decide) (by simp only [List.length_append, List.length_nil, be_len, txt_len, hd.len]; omega)).mono ?_
  rintro e w7 ⟨rfl, W', K'⟩
  replace X := X.keeps K' hBM hBb
  replace Y := Y.keeps K' hLM hLb
  replace K := K.trans (K'.mono hMB)
  clear W K' c36
  have W := W'
  clear W'
  have y3 : w7.cell? ⟨L, 3, none⟩ = some (.bool false) := Y.cell 3
  have W9 : Wr w7 b M (bodyL x) := by
    have e : bodyL x = _ := rfl
    simp only [bodyL, pT, pD, pM, pA, hk]
    simpa [hT, hD, hM, hA, List.append_assoc] using W
  clear W
  go_wp2
  go_end0
  exact ⟨rfl, ⟨M, by have := HBW.out; omega, W9⟩, by have := HBW.out; rw [← this]; exact K⟩
set_option maxHeartbeats 4000000 in
theorem wslip_gone {w : World} {b : Nat} (hb : At w b 122 #[.pointer none, .slice none 0 0]) (x : Sp) (hk : x.k = 5) (hc : Can x) :
    Calls Tryz.prog 73 #[.pointer (some ⟨b, 0, none⟩), .agg (slV x)] w fun e w' => e = .returned (.tuple #[]) ∧ (∃ M, w.heap.size ≤ M ∧ Wr w' b M (bodyL x)) ∧ Keeps b w.heap.size w w' := by
  have hd := hc.dig
  obtain ⟨hn1, hn2⟩ := hc.names_le
  have hty := hc.ty
  have hbl := hb.lt
  have BODY := Lib.hid (show bodyL x = bodyL x from rfl)
  have e0 : (slV x)[0]? = some (.int .i64 5) := by rw [sl0, hk]
  have X := At.new w 39 (slV x)
  have F : Below w.heap.size w (w.alloc (.cells (slV x) 39)) := (Below.refl _ _).alloc (Nat.le_refl _) _
  have hb := hb.alloc (.cells (slV x) 39)
  go_enter Tryz.func73, Tryz.ntmps73
  go_upto_region 1 with (fail)
  obtain ⟨B, hB⟩ : ∃ B, B = w.heap.size := ⟨_, rfl⟩
  rw [← hB] at X F ⊢
  generalize w.alloc (.cells (slV x) 39) = w1 at X F hb ⊢
  have c0 : w1.cell? ⟨B, 0, none⟩ = some (.int .i64 5) := (X.cell 0).trans e0
  have HBW := Lib.hid hB
  clear hB e0
  go_wp2_with fail
  refine (layout_any 5 _).mono ?_
  rintro e w2 ⟨rfl, G⟩
  replace X := X.old G
  replace hb := hb.old G
  replace F := F.trans (G.mono (by have := F.size; have := HBW.out; omega))
  have F0 := F
  clear G c0
  obtain ⟨w3, S3, Y, G, Z3⟩ := keep (P := Tryz.prog) (ty := 146) w2 #[.bool false, .bool false, .bool false, .bool false] (layV 5) 146 (by kernel_rfl) rfl (lay_one 5)
  have X2 := X
  replace X := X.old G
  replace hb := hb.old G
  replace F := F.trans (G.mono (by have := F.size; have := HBW.out; omega))
  clear G X2
  have hBL : B < w3.heap.size ∧ b < w3.heap.size ∧ w2.heap.size < w3.heap.size ∧ B ≠ b := ⟨X.lt, hb.lt, Y.lt, by have := HBW.out; omega⟩
  have hLb : w2.heap.size ≠ b := by have := F0.size; have := HBW.out; omega
  have hMB : B ≤ w3.heap.size := by omega
  have W := fresh_wr hb hBL.2.1 (Nat.le_refl _)
  go_upto_region 2 with (refine wpl_store S3 rfl rfl rfl rfl rfl ?_)
  have K := Keeps.of_below (b := b) F
  clear F F0 S3 Z3 hb
  generalize w3.heap.size = M at hBL hMB W ⊢
  generalize w2.heap.size = L at hBL Y hLb ⊢
  obtain ⟨hBM, hbM, hLM, hBb⟩ := hBL
  have c0 : w3.cell? ⟨B, 0, none⟩ = some (.int .i64 5) := (X.cell 0).trans (by rw [sl0, hk])
  go_wp2_with fail
  refine (wnumber_any W 5 1 (by decide) (by simp only [List.length_append, List.length_nil, be_len, txt_len, hd.len]; omega)).mono ?_
  rintro e w4 ⟨rfl, W', K'⟩
  replace X := X.keeps K' hBM hBb
  replace Y := Y.keeps K' hLM hLb
  replace K := K.trans (K'.mono hMB)
  clear W K' c0
  have W := W'
  clear W'
  have y0 : w4.cell? ⟨L, 0, none⟩ = some (.bool false) := Y.cell 0
  have y1 : w4.cell? ⟨L, 1, none⟩ = some (.bool true) := Y.cell 1
  go_upto_region 7 with (fail)
  clear y0 y1
  refine wp_region_held (S := fun _ => True) (by kernel_rfl) ?_
  change wpAnyH _ _ _ _ _ _ _ _ w4.drew
  replace W := W.drew
  replace X := X.drew
  replace Y := Y.drew
  replace K := K.trans (Keeps.of_below ((Below.refl B _).drew))
  generalize w4.drew = wd at W X Y K ⊢
  refine held_take 0 (.pointer (some ⟨b, 0, none⟩)) rfl (by kernel_rfl) (by kernel_rfl) (by kernel_rfl) (fun _ _ _ h => h) (Or.inl ⟨by rfl, fun x j => by go_simp⟩) trivial (fun K hK => ?_)
  go_simp
  refine hK _ _ ?_
  clear hK K
  refine held_take 1 (.pointer (some ⟨b, 0, none⟩)) rfl (by kernel_rfl) (by kernel_rfl) (by kernel_rfl) (fun _ _ _ h => h) (Or.inl ⟨by rfl, fun x j => by go_simp⟩) trivial (fun K hK => ?_)
  go_simp
  refine hK _ _ ?_
  clear hK K
  refine held_take 2 (.pointer (some ⟨b, 0, none⟩)) rfl (by kernel_rfl) (by kernel_rfl) (by kernel_rfl) (fun _ _ _ h => h) (Or.inl ⟨by rfl, fun x j => by go_simp⟩) trivial (fun K hK => ?_)
  go_simp
  refine hK _ _ ?_
  clear hK K
  refine held_take 3 (.pointer (some ⟨B, 3, none⟩)) rfl (by kernel_rfl) (by kernel_rfl) (by kernel_rfl) (fun _ _ _ h => h) (Or.inl ⟨by rfl, fun x j => by go_simp⟩) trivial (fun K hK => ?_)
  go_simp
  refine hK _ _ ?_
  clear hK K
  refine held_take 4 (.slice (some ⟨B, 3, none⟩) 32 32) rfl (by kernel_rfl) (by kernel_rfl) (by kernel_rfl) (fun _ _ _ h => h) (Or.inl ⟨by rfl, fun x j => by go_simp⟩) trivial (fun K hK => ?_)
  go_simp
  refine hK _ _ ?_
  clear hK K
  refine held_one 5 (by kernel_rfl) (fun K hK => wpOp_in rfl rfl ?_)
  go_simp
  rw [show (32 : Nat) = x.dig.length from hd.len.symm]
  refine (bytes_any W (a := ⟨B, 3, none⟩) (q := x.dig) hd.lt hBb hBM (dig_cells X hd) (by simp only [List.length_append, List.length_nil, be_len, txt_len, hd.len]; omega)).mono ?_
  rintro e wz ⟨rfl, W', K'⟩
  refine hK _ _ trivial ?_
  clear hK K
  refine wpAnyH_done (by kernel_rfl) ?_ _
  replace X := X.keeps K' hBM hBb
  replace Y := Y.keeps K' hLM hLb
  replace K := K.trans (K'.mono hMB)
  clear W K'
  have W := W'
  clear W'
  generalize wz = w5 at W X Y K ⊢
  have y2 : w5.cell? ⟨L, 2, none⟩ = some (.bool false) := Y.cell 2
  have y3 : w5.cell? ⟨L, 3, none⟩ = some (.bool false) := Y.cell 3
  have W9 : Wr w5 b M (bodyL x) := by
    have e : bodyL x = _ := rfl
    simp only [bodyL, pT, pD, pM, pA, hk]
    simpa [hT, hD, hM, hA, List.append_assoc] using W
  clear W
  go_wp2
  go_end0
  exact ⟨rfl, ⟨M, by have := HBW.out; omega, W9⟩, by have := HBW.out; rw [← this]; exact K⟩
set_option maxHeartbeats 4000000 in
theorem wslip_touch {w : World} {b : Nat} (hb : At w b 122 #[.pointer none, .slice none 0 0]) (x : Sp) (hk : x.k = 6) (hc : Can x) :
    Calls Tryz.prog 73 #[.pointer (some ⟨b, 0, none⟩), .agg (slV x)] w fun e w' => e = .returned (.tuple #[]) ∧ (∃ M, w.heap.size ≤ M ∧ Wr w' b M (bodyL x)) ∧ Keeps b w.heap.size w w' := by
  have hd := hc.dig
  obtain ⟨hn1, hn2⟩ := hc.names_le
  have hty := hc.ty
  have hbl := hb.lt
  have BODY := Lib.hid (show bodyL x = bodyL x from rfl)
  have e0 : (slV x)[0]? = some (.int .i64 6) := by rw [sl0, hk]
  have X := At.new w 39 (slV x)
  have F : Below w.heap.size w (w.alloc (.cells (slV x) 39)) := (Below.refl _ _).alloc (Nat.le_refl _) _
  have hb := hb.alloc (.cells (slV x) 39)
  go_enter Tryz.func73, Tryz.ntmps73
  go_upto_region 1 with (fail)
  obtain ⟨B, hB⟩ : ∃ B, B = w.heap.size := ⟨_, rfl⟩
  rw [← hB] at X F ⊢
  generalize w.alloc (.cells (slV x) 39) = w1 at X F hb ⊢
  have c0 : w1.cell? ⟨B, 0, none⟩ = some (.int .i64 6) := (X.cell 0).trans e0
  have HBW := Lib.hid hB
  clear hB e0
  go_wp2_with fail
  refine (layout_any 6 _).mono ?_
  rintro e w2 ⟨rfl, G⟩
  replace X := X.old G
  replace hb := hb.old G
  replace F := F.trans (G.mono (by have := F.size; have := HBW.out; omega))
  have F0 := F
  clear G c0
  obtain ⟨w3, S3, Y, G, Z3⟩ := keep (P := Tryz.prog) (ty := 146) w2 #[.bool false, .bool false, .bool false, .bool false] (layV 6) 146 (by kernel_rfl) rfl (lay_one 6)
  have X2 := X
  replace X := X.old G
  replace hb := hb.old G
  replace F := F.trans (G.mono (by have := F.size; have := HBW.out; omega))
  clear G X2
  have hBL : B < w3.heap.size ∧ b < w3.heap.size ∧ w2.heap.size < w3.heap.size ∧ B ≠ b := ⟨X.lt, hb.lt, Y.lt, by have := HBW.out; omega⟩
  have hLb : w2.heap.size ≠ b := by have := F0.size; have := HBW.out; omega
  have hMB : B ≤ w3.heap.size := by omega
  have W := fresh_wr hb hBL.2.1 (Nat.le_refl _)
  go_upto_region 2 with (refine wpl_store S3 rfl rfl rfl rfl rfl ?_)
  have K := Keeps.of_below (b := b) F
  clear F F0 S3 Z3 hb
  generalize w3.heap.size = M at hBL hMB W ⊢
  generalize w2.heap.size = L at hBL Y hLb ⊢
  obtain ⟨hBM, hbM, hLM, hBb⟩ := hBL
  have c0 : w3.cell? ⟨B, 0, none⟩ = some (.int .i64 6) := (X.cell 0).trans (by rw [sl0, hk])
  go_wp2_with fail
  refine (wnumber_any W 6 1 (by decide) (by simp only [List.length_append, List.length_nil, be_len, txt_len, hd.len]; omega)).mono ?_
  rintro e w4 ⟨rfl, W', K'⟩
  replace X := X.keeps K' hBM hBb
  replace Y := Y.keeps K' hLM hLb
  replace K := K.trans (K'.mono hMB)
  clear W K' c0
  have W := W'
  clear W'
  have y0 : w4.cell? ⟨L, 0, none⟩ = some (.bool false) := Y.cell 0
  have y1 : w4.cell? ⟨L, 1, none⟩ = some (.bool true) := Y.cell 1
  go_upto_region 7 with (fail)
  clear y0 y1
  refine wp_region_held (S := fun _ => True) (by kernel_rfl) ?_
  change wpAnyH _ _ _ _ _ _ _ _ w4.drew
  replace W := W.drew
  replace X := X.drew
  replace Y := Y.drew
  replace K := K.trans (Keeps.of_below ((Below.refl B _).drew))
  generalize w4.drew = wd at W X Y K ⊢
  refine held_take 0 (.pointer (some ⟨b, 0, none⟩)) rfl (by kernel_rfl) (by kernel_rfl) (by kernel_rfl) (fun _ _ _ h => h) (Or.inl ⟨by rfl, fun x j => by go_simp⟩) trivial (fun K hK => ?_)
  go_simp
  refine hK _ _ ?_
  clear hK K
  refine held_take 1 (.pointer (some ⟨b, 0, none⟩)) rfl (by kernel_rfl) (by kernel_rfl) (by kernel_rfl) (fun _ _ _ h => h) (Or.inl ⟨by rfl, fun x j => by go_simp⟩) trivial (fun K hK => ?_)
  go_simp
  refine hK _ _ ?_
  clear hK K
  refine held_take 2 (.pointer (some ⟨b, 0, none⟩)) rfl (by kernel_rfl) (by kernel_rfl) (by kernel_rfl) (fun _ _ _ h => h) (Or.inl ⟨by rfl, fun x j => by go_simp⟩) trivial (fun K hK => ?_)
  go_simp
  refine hK _ _ ?_
  clear hK K
  refine held_take 3 (.pointer (some ⟨B, 3, none⟩)) rfl (by kernel_rfl) (by kernel_rfl) (by kernel_rfl) (fun _ _ _ h => h) (Or.inl ⟨by rfl, fun x j => by go_simp⟩) trivial (fun K hK => ?_)
  go_simp
  refine hK _ _ ?_
  clear hK K
  refine held_take 4 (.slice (some ⟨B, 3, none⟩) 32 32) rfl (by kernel_rfl) (by kernel_rfl) (by kernel_rfl) (fun _ _ _ h => h) (Or.inl ⟨by rfl, fun x j => by go_simp⟩) trivial (fun K hK => ?_)
  go_simp
  refine hK _ _ ?_
  clear hK K
  refine held_one 5 (by kernel_rfl) (fun K hK => wpOp_in rfl rfl ?_)
  go_simp
  rw [show (32 : Nat) = x.dig.length from hd.len.symm]
  refine (bytes_any W (a := ⟨B, 3, none⟩) (q := x.dig) hd.lt hBb hBM (dig_cells X hd) (by simp only [List.length_append, List.length_nil, be_len, txt_len, hd.len]; omega)).mono ?_
  rintro e wz ⟨rfl, W', K'⟩
  refine hK _ _ trivial ?_
  clear hK K
  refine wpAnyH_done (by kernel_rfl) ?_ _
  replace X := X.keeps K' hBM hBb
  replace Y := Y.keeps K' hLM hLb
  replace K := K.trans (K'.mono hMB)
  clear W K'
  have W := W'
  clear W'
  generalize wz = w5 at W X Y K ⊢
  have y2 : w5.cell? ⟨L, 2, none⟩ = some (.bool false) := Y.cell 2
  have y3 : w5.cell? ⟨L, 3, none⟩ = some (.bool false) := Y.cell 3
  have W9 : Wr w5 b M (bodyL x) := by
    have e : bodyL x = _ := rfl
    simp only [bodyL, pT, pD, pM, pA, hk]
    simpa [hT, hD, hM, hA, List.append_assoc] using W
  clear W
  go_wp2
  go_end0
  exact ⟨rfl, ⟨M, by have := HBW.out; omega, W9⟩, by have := HBW.out; rw [← this]; exact K⟩
theorem wslip_any {w : World} {b : Nat} (hb : At w b 122 #[.pointer none, .slice none 0 0]) (x : Sp) (hc : Can x) :
    Calls Tryz.prog 73 #[.pointer (some ⟨b, 0, none⟩), .agg (slV x)] w fun e w' => e = .returned (.tuple #[]) ∧ (∃ M, w.heap.size ≤ M ∧ Wr w' b M (bodyL x)) ∧ Keeps b w.heap.size w w' := by
  have h := hc.k
  have : x.k = 1 ∨ x.k = 2 ∨ x.k = 3 ∨ x.k = 4 ∨ x.k = 5 ∨ x.k = 6 := by omega
  rcases this with e | e | e | e | e | e
  · exact wslip_bind hb x e hc
  · exact wslip_miss hb x e hc
  · exact wslip_drop hb x e hc
  · exact wslip_blob hb x e hc
  · exact wslip_gone hb x e hc
  · exact wslip_touch hb x e hc
end Go.Proofs.YtdmgobffhpgjlaaGreat.Sl
end

section
namespace Go.Proofs.YtdmgobffhpgjlaaGreat.Sl
open Go.RowKit Go.PlainAid Go.Proofs.YtdmgobffhpgjlaaGreat.Cr
set_option linter.unusedVariables false
set_option maxRecDepth 20000
set_option linter.unusedSimpArgs false

set_option maxHeartbeats 4000000 in
theorem write_no (x : Sp) (w : World) (ok : Okay x) (hc : ¬ Can x) :
    Calls Tryz.prog 52 #[.agg (slV x)] w fun e w' => e = .returned (.tuple #[.string ⟨#[]⟩, .int .i64 1]) ∧ Below w.heap.size w w' := by
  have X := At.new w 39 (slV x)
  have F : Below w.heap.size w (w.alloc (.cells (slV x) 39)) := (Below.refl _ _).alloc (Nat.le_refl _) _
  go_enter Tryz.func52, Tryz.ntmps52
  go_upto_region 1 with (fail)
  generalize w.alloc (.cells (slV x) 39) = w1 at X F ⊢
  have LX := sl_loads X ok.dig.len
  go_wp2_with (refine wpl_load LX rfl rfl rfl ?_)
  refine (good_any x _ ok).mono ?_
  rintro e w2 ⟨rfl, G⟩
  rw [canB_no hc]
  replace F := F.trans (G.mono F.size)
  clear G LX X
  go_wp2
  go_ret2
  exact ⟨rfl, F⟩
theorem body_ne {x : Sp} (h : Can x) : bodyL x ≠ [] := by
  have := body_len h
  intro e
  rw [e] at this
  simp at this
theorem be_ne (n : Int) : be 2 n ≠ [] := by simp [be]
theorem rec_text (b : List Nat) : strOf (be 2 (b.length : Int)) ++ tl (mor 0 (be 2 (b.length : Int) ++ b)) ++ strOf b = strOf (recL b) := by
  unfold tl recL
  rw [strOf_append, strOf_append]
set_option maxHeartbeats 4000000 in
theorem write_yes (x : Sp) (w : World) (ok : Okay x) (hc : Can x) :
    Calls Tryz.prog 52 #[.agg (slV x)] w fun e w' => e = .returned (.tuple #[.string (strOf (recL (bodyL x))), .int .i64 0]) ∧ Below w.heap.size w w' := by
  have hd := ok.dig.len
  obtain ⟨b1, b2⟩ := body_len hc
  have BN := Lib.hid (body_ne hc)
  have BL := Lib.hid (body_lt hc.dig)
  have RT := Lib.hid (rec_text (bodyL x))
  have X := At.new w 39 (slV x)
  have F : Below w.heap.size w (w.alloc (.cells (slV x) 39)) := (Below.refl _ _).alloc (Nat.le_refl _) _
  go_enter Tryz.func52, Tryz.ntmps52
  go_upto_region 1 with (fail)
  obtain ⟨B, hB⟩ : ∃ B, B = w.heap.size := ⟨_, rfl⟩
  rw [← hB] at X ⊢
  generalize w.alloc (.cells (slV x) 39) = w1 at X F ⊢
  have HB := Lib.hid hB
  clear hB
  have LX := sl_loads X hd
  go_wp2_with (refine wpl_load LX rfl rfl rfl ?_)
  refine (good_any x _ ok).mono ?_
  rintro e w2 ⟨rfl, G⟩
  rw [canB_yes hc]
  replace F := F.trans (G.mono F.size)
  replace X := X.old G
  clear G LX
  have A1 := (At.new w2 122 #[.pointer none, .slice none 0 0]).alloc (.cells #[.pointer none, .slice none 0 0] 122)
  have A2 := At.new (w2.alloc (.cells #[.pointer none, .slice none 0 0] 122)) 122 #[.pointer none, .slice none 0 0]
  replace X := (X.alloc (.cells #[.pointer none, .slice none 0 0] 122)).alloc (.cells #[.pointer none, .slice none 0 0] 122)
  have n2 := F.size
  replace F := (F.alloc F.size (.cells #[.pointer none, .slice none 0 0] 122)).alloc (by rw [World.size_alloc]; omega) (.cells #[.pointer none, .slice none 0 0] 122)
  go_upto_region 4 with (fail)
  rw [World.size_alloc] at A2
  have hne : w2.heap.size ≠ w2.heap.size + 1 := by omega
  have n3 : w.heap.size ≤ w2.heap.size + 1 := by omega
  generalize w2.heap.size + 1 = D at A2 hne n3 ⊢
  generalize w2.heap.size = H at A1 hne n2 ⊢
  generalize (w2.alloc (.cells #[.pointer none, .slice none 0 0] 122)).alloc (.cells #[.pointer none, .slice none 0 0] 122) = w3 at A1 A2 X F ⊢
  have LX := sl_loads X hd
  go_wp2_with (refine wpl_load LX rfl rfl rfl ?_)
  have hH3 := A1.lt
  refine (wslip_any A2 x hc).mono ?_
  rintro e w4 ⟨rfl, ⟨M, hM, WB⟩, K⟩
  replace A1 := A1.keeps K A1.lt hne
  have hHM : H < M := Nat.lt_of_lt_of_le hH3 hM
  have hMn : w.heap.size ≤ M := Nat.le_trans F.size hM
  replace F := K.below F F.size n3
  clear LX X A2 K hM hH3
  go_wp2_with fail
  refine (len_any WB).mono ?_
  rintro e v4 ⟨rfl, rfl⟩
  have WH := fresh_wr A1 A1.lt (Nat.le_refl _)
  have hN := F.size
  go_wp2_with fail
  refine (wnumber_any WH ((bodyL x).length : Int) 2 (by decide) (by simp)).mono ?_
  rintro e w5 ⟨rfl, WH5, K5⟩
  rw [List.nil_append] at WH5
  clear WH A1
  go_wp2_with fail
  refine (text_any WH5 (be_ne _) (by rw [be_len]; decide)).mono ?_
  rintro e w6 ⟨rfl, WH6, K6⟩
  have WB6 := WB.keeps (K5.trans K6) (Nat.le_refl _) hHM (Ne.symm hne)
  replace F := (K5.trans K6).below F hN n2
  clear WB WH5 WH6 K5 K6 hN
  go_wp2_with fail
  refine (text_any WB6 BN.out (by omega)).mono ?_
  rintro e w7 ⟨rfl, WB7, K7⟩
  replace F := K7.below F hMn n3
  clear WB6 K7
  go_wp2_with fail
  refine (of_any (two_strs _ _ _) (by simp) (by
    intro s hs
    simp only [List.mem_cons, List.not_mem_nil, or_false] at hs
    rcases hs with rfl | rfl
    · rw [strOf_size, be_len]; decide
    · rw [strOf_size]; omega)).mono ?_
  rintro e v7 ⟨rfl, rfl⟩
  rw [allB_two, bl_strOf (be_lt _ _), bl_strOf BL.out]
  replace WB7 := WB7.below ((Below.refl _ _).alloc (Nat.le_refl _) (.cells #[.string (strOf (be 2 ((bodyL x).length : Int))), .string (strOf (bodyL x))] 9)) (Nat.le_refl _)
  replace F := F.alloc F.size (.cells #[.string (strOf (be 2 ((bodyL x).length : Int))), .string (strOf (bodyL x))] 9)
  generalize w7.alloc (.cells #[.string (strOf (be 2 ((bodyL x).length : Int))), .string (strOf (bodyL x))] 9) = w8 at WB7 F ⊢
  go_wp2_with fail
  refine (tail_any _ _ (mor_lt (by decide) (fun y hy => (List.mem_append.1 hy).elim (be_lt _ _ y) (BL.out y)))).mono ?_
  rintro e w9 ⟨rfl, G⟩
  replace WB7 := WB7.below G (Nat.le_refl _)
  replace F := F.trans (G.mono F.size)
  clear G
  go_wp2_with fail
  refine (text_any WB7 BN.out (by omega)).mono ?_
  rintro e w10 ⟨rfl, WB10, K10⟩
  replace F := K10.below F hMn n3
  clear WB7 WB10 K10
  have hz1 : (strOf (be 2 ((bodyL x).length : Int))).size ≤ 1000 := by rw [strOf_size, be_len]; decide
  have hz2 : (tl (mor 0 (be 2 ((bodyL x).length : Int) ++ bodyL x))).size ≤ 1000 := by rw [tl_size]; decide
  have hz3 : (strOf (bodyL x)).size ≤ 1000 := by rw [strOf_size]; omega
  go_wp2
  go_ret2
  exact ⟨by rw [← RT.out]; rfl, F⟩
end Go.Proofs.YtdmgobffhpgjlaaGreat.Sl
end
