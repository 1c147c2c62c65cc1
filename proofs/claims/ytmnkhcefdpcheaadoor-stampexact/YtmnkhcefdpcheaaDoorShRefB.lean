/-
  Contracts of the document's answer of layer 2, its leaves: turn, block.
-/
import Derived.Test.YtmnkhcefdpcheaaDoorShHash
import Derived.Deep.QuietTactic
import Derived.BigQuiet
import Derived.Deep.RegionHeld3
namespace Go.Proofs.YtmnkhcefdpcheaaDoor.Sh
open Go.RowKit Go.PlainAid
set_option linter.unusedVariables false

theorem turn_num (x n : Nat) (hx : x < 4294967296) : bits .or .u32 ((x : Int) / 2 ^ n) ((x : Int) * 2 ^ (32 - n) % 4294967296) = ((ror x n : Nat) : Int) := by
  rw [show (x : Int) * 2 ^ (32 - n) % 4294967296 = ((x * 2 ^ (32 - n) % 4294967296 : Nat) : Int) by simp, wshr, wor (div_lt hx) (Nat.mod_lt _ (by decide)), Nat.or_comm]
  rfl
set_option maxRecDepth 100000 in
theorem turn_any (x n : Nat) (w : World) (hx : x < 4294967296) (h0 : 0 < n) (h1 : n < 32) :
    Calls Tryd.prog 39 #[.int .u32 x, .int .i64 (n : Int)] w fun e w' => e = .returned (.int .u32 (ror x n : Nat)) ∧ ∃ k, w' = w.drewN k := by
  obtain ⟨a1, b1, d1⟩ := ix (x := 32 - (n : Int)) (n := 32 - n) (by omega) (by omega)
  have b2 : (0 : Int) ≤ (n : Int) := by omega
  have b3 : (n : Int) ≤ 32 := by omega
  have m1 : min n 32 = n := by omega
  have m2 : min (32 - n) 32 = 32 - n := by omega
  go_enter Tryd.func39, Tryd.ntmps39
  go_wp2
  go_quiet (fail)
  go_wp2
  go_ret
  exact ⟨ret_int (turn_num x n hx), nq, rfl⟩

/-- what the call holds: the state, the result's room, the keys, the numbers -/
structure B4 (w wr : World) (st L : List Nat) : Prop where
  st : Blk wr w.heap.size .u32 53 st
  res : Blk wr (w.heap.size + 1) .u32 53 (List.replicate 8 0)
  keys : Blk wr (w.heap.size + 1 + 1) .u32 65 keys
  nums : Blk wr (w.heap.size + 1 + 1 + 1) .u32 65 L
  bel : Below w.heap.size w wr
theorem B4.step {w wr : World} {st L : List Nat} (h : B4 w wr st L) (j v : Nat) : B4 w (wr.setCell ⟨w.heap.size + 1 + 1 + 1, j, none⟩ (.int .u32 (v : Int))) st (L.set j v) :=
  ⟨h.st.other (by simp <;> omega) _, h.res.other (by simp <;> omega) _, h.keys.other (by simp) _, h.nums.set j v, h.bel.setCell (by simp; omega) _⟩
theorem B4.heap {w wr wr' : World} {st L : List Nat} (h : B4 w wr st L) (e : wr'.heap = wr.heap) (e1 : wr'.os = wr.os) (e2 : wr'.tape = wr.tape) (e3 : wr'.output = wr.output) : B4 w wr' st L :=
  ⟨⟨by rw [e]; exact h.st.heap⟩, ⟨by rw [e]; exact h.res.heap⟩, ⟨by rw [e]; exact h.keys.heap⟩, ⟨by rw [e]; exact h.nums.heap⟩, ⟨by rw [e1]; exact h.bel.os, by rw [e2]; exact h.bel.tape, by rw [e3]; exact h.bel.output, by rw [e]; exact h.bel.size, fun k hk => by rw [e]; exact h.bel.block k hk⟩⟩

theorem b4_first (w : World) (st : List Nat) : ∃ X, Stores Tryd.prog (((w.alloc (.cells (vals .u32 st).toArray 53)).alloc (.cells #[.int .u32 0, .int .u32 0, .int .u32 0, .int .u32 0, .int .u32 0, .int .u32 0, .int .u32 0, .int .u32 0] 53)).alloc (.cells #[.int .u32 0, .int .u32 0, .int .u32 0, .int .u32 0, .int .u32 0, .int .u32 0, .int .u32 0, .int .u32 0, .int .u32 0, .int .u32 0, .int .u32 0, .int .u32 0, .int .u32 0, .int .u32 0, .int .u32 0, .int .u32 0, .int .u32 0, .int .u32 0, .int .u32 0, .int .u32 0, .int .u32 0, .int .u32 0, .int .u32 0, .int .u32 0, .int .u32 0, .int .u32 0, .int .u32 0, .int .u32 0, .int .u32 0, .int .u32 0, .int .u32 0, .int .u32 0, .int .u32 0, .int .u32 0, .int .u32 0, .int .u32 0, .int .u32 0, .int .u32 0, .int .u32 0, .int .u32 0, .int .u32 0, .int .u32 0, .int .u32 0, .int .u32 0, .int .u32 0, .int .u32 0, .int .u32 0, .int .u32 0, .int .u32 0, .int .u32 0, .int .u32 0, .int .u32 0, .int .u32 0, .int .u32 0, .int .u32 0, .int .u32 0, .int .u32 0, .int .u32 0, .int .u32 0, .int .u32 0, .int .u32 0, .int .u32 0, .int .u32 0, .int .u32 0] 65)) 65 (w.heap.size + 1 + 1) 0 (vals .u32 keys).toArray X ∧
    Blk X w.heap.size .u32 53 st ∧ Blk X (w.heap.size + 1) .u32 53 (List.replicate 8 0) ∧ Blk X (w.heap.size + 1 + 1) .u32 65 keys ∧ Below w.heap.size w X ∧ X.heap.size = w.heap.size + 1 + 1 + 1 := by
  rw [← zeros8, ← zeros64]
  have b0 := ((Blk.new w .u32 53 st).alloc (.cells (vals .u32 (List.replicate 8 0)).toArray 53)).alloc (.cells (vals .u32 (List.replicate 64 0)).toArray 65)
  have b1 := (Blk.new (w.alloc (.cells (vals .u32 st).toArray 53)) .u32 53 (List.replicate 8 0)).alloc (.cells (vals .u32 (List.replicate 64 0)).toArray 65)
  have b2 := Blk.new ((w.alloc (.cells (vals .u32 st).toArray 53)).alloc (.cells (vals .u32 (List.replicate 8 0)).toArray 53)) .u32 65 (List.replicate 64 0)
  rw [show (w.alloc (.cells (vals .u32 st).toArray 53)).heap.size = w.heap.size + 1 by simp] at b1
  rw [show ((w.alloc (.cells (vals .u32 st).toArray 53)).alloc (.cells (vals .u32 (List.replicate 8 0)).toArray 53)).heap.size = w.heap.size + 1 + 1 by simp] at b2
  refine ⟨_, b2.stores (by kernel_rfl) (by rw [List.length_replicate]; rfl), b0.rowOther (by omega), b1.rowOther (by omega), b2.row _, below_row ((((Below.refl _ _).alloc (Nat.le_refl _) _).alloc (by simp) _).alloc (by simp <;> omega) _) (by omega), by simp⟩
theorem b4_second {w X : World} {st b : List Nat} (h0 : Blk X w.heap.size .u32 53 st) (h1 : Blk X (w.heap.size + 1) .u32 53 (List.replicate 8 0)) (h2 : Blk X (w.heap.size + 1 + 1) .u32 65 keys) (hb : Below w.heap.size w X) (hz : X.heap.size = w.heap.size + 1 + 1 + 1) :
    ∃ Y, Stores Tryd.prog (X.alloc (.cells #[.int .u32 0, .int .u32 0, .int .u32 0, .int .u32 0, .int .u32 0, .int .u32 0, .int .u32 0, .int .u32 0, .int .u32 0, .int .u32 0, .int .u32 0, .int .u32 0, .int .u32 0, .int .u32 0, .int .u32 0, .int .u32 0, .int .u32 0, .int .u32 0, .int .u32 0, .int .u32 0, .int .u32 0, .int .u32 0, .int .u32 0, .int .u32 0, .int .u32 0, .int .u32 0, .int .u32 0, .int .u32 0, .int .u32 0, .int .u32 0, .int .u32 0, .int .u32 0, .int .u32 0, .int .u32 0, .int .u32 0, .int .u32 0, .int .u32 0, .int .u32 0, .int .u32 0, .int .u32 0, .int .u32 0, .int .u32 0, .int .u32 0, .int .u32 0, .int .u32 0, .int .u32 0, .int .u32 0, .int .u32 0, .int .u32 0, .int .u32 0, .int .u32 0, .int .u32 0, .int .u32 0, .int .u32 0, .int .u32 0, .int .u32 0, .int .u32 0, .int .u32 0, .int .u32 0, .int .u32 0, .int .u32 0, .int .u32 0, .int .u32 0, .int .u32 0] 65)) 65 (w.heap.size + 1 + 1 + 1) 0 (vals .u32 (List.replicate 64 0)).toArray Y ∧ B4 w Y st (schedTo b 0) := by
  rw [← zeros64, sched_zero]
  have n := Blk.new X .u32 65 (List.replicate 64 0)
  rw [hz] at n
  refine ⟨_, n.stores (by rw [List.length_replicate]; kernel_rfl) rfl, (h0.alloc _).rowOther (by omega), (h1.alloc _).rowOther (by omega), (h2.alloc _).rowOther (by omega), n.row _, below_row (hb.alloc hb.size _) (by omega)⟩
theorem ss1_num {y : Nat} (h : y < 4294967296) : bits .xor .u32 (bits .xor .u32 ((ror y 17 : Nat) : Int) ((ror y 19 : Nat) : Int)) ((y : Int) / 1024) = ((ss1 y : Nat) : Int) := by
  rw [wxor (ror_lt h) (ror_lt h), show (y : Int) / 1024 = ((y / 1024 : Nat) : Int) by omega, wxor (xor_lt (ror_lt h) (ror_lt h)) (div_lt h)]
  rfl
theorem ss0_num {y : Nat} (h : y < 4294967296) : bits .xor .u32 (bits .xor .u32 ((ror y 7 : Nat) : Int) ((ror y 18 : Nat) : Int)) ((y : Int) / 8) = ((ss0 y : Nat) : Int) := by
  rw [wxor (ror_lt h) (ror_lt h), show (y : Int) / 8 = ((y / 8 : Nat) : Int) by omega, wxor (xor_lt (ror_lt h) (ror_lt h)) (div_lt h)]
  rfl
theorem late_num {L : List Nat} {t : Nat} (h : Lt 4294967296 L) : (((bits .xor .u32 (bits .xor .u32 ((ror (at0 L (t - 2)) 17 : Nat) : Int) ((ror (at0 L (t - 2)) 19 : Nat) : Int)) (((at0 L (t - 2) : Nat) : Int) / 1024) + ((at0 L (t - 7) : Nat) : Int)) % 4294967296 + bits .xor .u32 (bits .xor .u32 ((ror (at0 L (t - 15)) 7 : Nat) : Int) ((ror (at0 L (t - 15)) 18 : Nat) : Int)) (((at0 L (t - 15) : Nat) : Int) / 8)) % 4294967296 + ((at0 L (t - 16) : Nat) : Int)) % 4294967296 = ((later L t : Nat) : Int) := by
  rw [ss1_num (h _), ss0_num (h _)]
  unfold later add32
  omega
/-- .. and a to h -/
structure B5 (w wr : World) (V : Nat) (st W : List Nat) (r : List Nat) : Prop where
  b : B4 w wr st W
  v : Blk wr V .u32 53 r
  gt : w.heap.size + 1 + 1 + 1 < V
theorem B5.heap {w wr wr' : World} {V : Nat} {st W r : List Nat} (h : B5 w wr V st W r) (e : wr'.heap = wr.heap) (e1 : wr'.os = wr.os) (e2 : wr'.tape = wr.tape) (e3 : wr'.output = wr.output) : B5 w wr' V st W r :=
  ⟨h.b.heap e e1 e2 e3, ⟨by rw [e]; exact h.v.heap⟩, h.gt⟩
theorem B4.rowV {w wr : World} {st L : List Nat} (h : B4 w wr st L) {V : Nat} {cs : Array Value} (hV : w.heap.size + 1 + 1 + 1 < V) : B4 w (wr.setRow V cs) st L :=
  ⟨h.st.rowOther (by omega), h.res.rowOther (by omega), h.keys.rowOther (by omega), h.nums.rowOther (by omega), below_row h.bel (by omega)⟩
theorem B5.row {w wr : World} {V : Nat} {st W r : List Nat} (h : B5 w wr V st W r) (r' : List Nat) : B5 w (wr.setRow V (vals .u32 r').toArray) V st W r' := ⟨h.b.rowV h.gt, h.v.row _, h.gt⟩
theorem b5_init {w wr : World} {st W : List Nat} (h : B4 w wr st W) (h8 : st.length = 8) : ∃ X, Stores Tryd.prog (wr.alloc (.cells #[.int .u32 0, .int .u32 0, .int .u32 0, .int .u32 0, .int .u32 0, .int .u32 0, .int .u32 0, .int .u32 0] 53)) 53 wr.heap.size 0 (vals .u32 st).toArray X ∧ B5 w X wr.heap.size st W st := by
  rw [← zeros8]
  have n := Blk.new wr .u32 53 (List.replicate 8 0)
  have g : w.heap.size + 1 + 1 + 1 < wr.heap.size := h.nums.lt
  refine ⟨_, n.stores (by rw [h8]; kernel_rfl) (by rw [h8]; rfl), ?_, n.row _, g⟩
  have b : B4 w (wr.alloc (.cells (vals .u32 (List.replicate 8 0)).toArray 53)) st W := ⟨h.st.alloc _, h.res.alloc _, h.keys.alloc _, h.nums.alloc _, h.bel.alloc h.bel.size _⟩
  exact b.rowV g
theorem t1_ref {r : R8} (o : r.Ok) (k x : Nat) : (((r.h : Int) + bits .xor .u32 (bits .xor .u32 ((ror r.e 6 : Nat) : Int) ((ror r.e 11 : Nat) : Int)) ((ror r.e 25 : Nat) : Int) + bits .xor .u32 (bits .and .u32 (r.e : Int) (r.f : Int)) (bits .and .u32 (bits .xor .u32 (if IntKind.u32.signed = true then -1 else IntKind.u32.max) (r.e : Int)) (r.g : Int)) + (k : Int)) % 4294967296 + (x : Int)) % 4294967296 = ((t1 r k x : Nat) : Int) := by
  rw [if_neg (by decide), show IntKind.u32.max = 4294967295 by decide, wnot o.e, wand o.e o.f, wand (by omega) o.g, wxor (and_lt o.e) (Nat.lt_of_le_of_lt Nat.and_le_right o.g), wxor (ror_lt o.e) (ror_lt o.e), wxor (xor_lt (ror_lt o.e) (ror_lt o.e)) (ror_lt o.e)]
  show ((((r.h : Int) + ((bs1 r.e : Nat) : Int) + ((chN r.e r.f r.g : Nat) : Int) + (k : Int)) % 4294967296 + (x : Int)) % 4294967296) = _
  unfold t1 add32
  omega
theorem t2_ref {r : R8} (o : r.Ok) : (bits .xor .u32 (bits .xor .u32 ((ror r.a 2 : Nat) : Int) ((ror r.a 13 : Nat) : Int)) ((ror r.a 22 : Nat) : Int) + bits .xor .u32 (bits .xor .u32 (bits .and .u32 (r.a : Int) (r.b : Int)) (bits .and .u32 (r.a : Int) (r.c : Int))) (bits .and .u32 (r.b : Int) (r.c : Int))) % 4294967296 = ((t2 r : Nat) : Int) := by
  rw [wand o.a o.b, wand o.a o.c, wand o.b o.c, wxor (and_lt o.a) (and_lt o.a), wxor (xor_lt (and_lt o.a) (and_lt o.a)) (and_lt o.b), wxor (ror_lt o.a) (ror_lt o.a), wxor (xor_lt (ror_lt o.a) (ror_lt o.a)) (ror_lt o.a)]
  show (((bs0 r.a : Nat) : Int) + ((majN r.a r.b r.c : Nat) : Int)) % 4294967296 = _
  unfold t2 add32
  omega
theorem agg_next (r : R8) (k x : Nat) : Value.agg #[.int .u32 ((((t1 r k x : Nat) : Int) + ((t2 r : Nat) : Int)) % 4294967296), .int .u32 r.a, .int .u32 r.b, .int .u32 r.c, .int .u32 (((r.d : Int) + ((t1 r k x : Nat) : Int)) % 4294967296), .int .u32 r.e, .int .u32 r.f, .int .u32 r.g] = .agg (vals .u32 (r.next k x).list).toArray := by
  rw [wsum, wsum]; rfl
def sumTo (s r : List Nat) : Nat → List Nat
  | 0 => r
  | i + 1 => (sumTo s r i).set i (add32 (at0 (sumTo s r i) i) (at0 s i))
theorem sumTo_len (s r : List Nat) : ∀ i, (sumTo s r i).length = r.length
  | 0 => rfl
  | i + 1 => by simp [sumTo, sumTo_len s r i]
theorem add32_comm (a b : Nat) : add32 a b = add32 b a := by unfold add32; rw [Nat.add_comm]
theorem sum_all (s : List Nat) (r : R8) : sumTo s r.list 8 = addR s r := by
  simp [sumTo, addR, R8.list, at0, add32_comm]
theorem sumTo_succ (s r : List Nat) (i : Nat) : sumTo s r (i + 1) = (sumTo s r i).set i (add32 (at0 (sumTo s r i) i) (at0 s i)) := rfl
theorem B5.step {w wr : World} {V : Nat} {st W r : List Nat} (h : B5 w wr V st W r) (j v : Nat) : B5 w (wr.setCell ⟨V, j, none⟩ (.int .u32 (v : Int))) V st W (r.set j v) :=
  ⟨⟨h.b.st.other (by have := h.gt; simp; omega) _, h.b.res.other (by have := h.gt; simp; omega) _, h.b.keys.other (by have := h.gt; simp; omega) _, h.b.nums.other (by have := h.gt; simp; omega) _, h.b.bel.setCell (by have := h.gt; simp; omega) _⟩, h.v.set j v, h.gt⟩
theorem list_len (r : R8) : r.list.length = 8 := rfl
theorem list_of (st : List Nat) (h : st.length = 8) : (R8.of st).list = st := by
  match st, h with
  | [a, b, c, d, e, f, g, i], _ => rfl
theorem cell_ne {x : World} {B i j : Nat} {v u : Value} (h : i ≠ j) (hc : x.cell? ⟨B, i, none⟩ = some u) : (x.setCell ⟨B, j, none⟩ v).cell? ⟨B, i, none⟩ = some u := by
  rw [← hc]
  simp only [World.cell?, World.setCell, Array.getElem?_modify]
  by_cases e : B < x.heap.size
  · simp only [if_true]
    cases hh : x.heap[B]? with
    | none => rfl
    | some o =>
      cases o <;> simp [Ne.symm h]
  · simp [Array.getElem?_eq_none (show x.heap.size ≤ B by omega)]
theorem bt_bl (s : ByteArray) (i : Nat) : bt s i = ((at0 (bl s) i : Nat) : Int) := by
  unfold bt at0 bl
  by_cases h : i < s.size
  · rw [dif_pos h]; simp [h]; rfl
  · rw [dif_neg h]; simp [h]

set_option maxRecDepth 100000 in
set_option maxHeartbeats 8000000 in
theorem block_any (st : List Nat) (s : ByteArray) (w : World) (h1 : st.length = 8) (h2 : Lt 4294967296 st) (h3 : s.size = 64) :
    Calls Tryd.prog 33 #[.agg (vals .u32 st).toArray, .string s] w fun e w' => e = .returned (.agg (vals .u32 (mixL st (bl s))).toArray) ∧ Below w.heap.size w w' := by
  have H1 := Lib.hid h1
  have H2 := Lib.hid h2
  have H3 := Lib.hid h3
  clear h1 h2 h3
  go_enter Tryd.func33, Tryd.ntmps33
  obtain ⟨X, S1, k0, k1, k2, kb, kz⟩ := b4_first w st
  go_upto_region 2 with (first | refine wpList_buildTo rfl 65 _ rfl (some 18) rfl (vals .u32 keys).toArray (by kernel_rfl) ?_ | refine wpl_store S1 rfl rfl rfl rfl rfl ?_)
  clear S1
  obtain ⟨Y, S2, M⟩ := b4_second (b := bl s) k0 k1 k2 kb kz
  have KZ := Lib.hid kz
  clear kz k0 k1 k2 kb
  go_upto_region 3 with (first | refine wpList_buildTo rfl 65 _ rfl (some 19) rfl (vals .u32 (List.replicate 64 0)).toArray (by kernel_rfl) ?_ | (rw [KZ.out]; refine wpl_store S2 rfl rfl rfl rfl rfl ?_))
  clear S2
  clear KZ
  go_wp2
  go_loopw [7] (fun i wr => ∃ t : Nat, t ≤ 16 ∧ i = .int .i64 t ∧ B4 w wr st (schedTo (bl s) t)) (fun i _ => 16 - (intOf i).toNat)
  case atStart => exact ⟨0, Nat.zero_le _, rfl, M⟩
  case round =>
    clear M
    obtain ⟨t, ht, rfl, M⟩ := hrel
    by_cases hlt : t < 16
    · have hb := get_bt s
      have c4 := M.nums.cell (j := t) (by rw [sched_len]; omega)
      have f4 := M.nums.frozen t
      obtain ⟨a0, b0, d0⟩ := ix (x := 4 * (t : Int)) (n := 4 * t) (by omega) (by omega)
      obtain ⟨a1, b1, d1⟩ := ix (x := 4 * (t : Int) + 1) (n := 4 * t + 1) (by omega) (by omega)
      obtain ⟨a2, b2, d2⟩ := ix (x := 4 * (t : Int) + 2) (n := 4 * t + 2) (by omega) (by omega)
      obtain ⟨a3, b3, d3⟩ := ix (x := 4 * (t : Int) + 3) (n := 4 * t + 3) (by omega) (by omega)
      have l0 : 4 * t < s.size := by rw [H3.out]; omega
      have l1 : 4 * t + 1 < s.size := by rw [H3.out]; omega
      have l2 : 4 * t + 2 < s.size := by rw [H3.out]; omega
      have l3 : 4 * t + 3 < s.size := by rw [H3.out]; omega
      have l4 : (t : Int) < 64 := by omega
      have i0 : 4 * (t : Int) < (s.size : Int) := by omega
      have i1 : 4 * (t : Int) + 1 < (s.size : Int) := by omega
      have i2 : 4 * (t : Int) + 2 < (s.size : Int) := by omega
      have i3 : 4 * (t : Int) + 3 < (s.size : Int) := by omega
      go_wp2
      go_still_tail 31, (by kernel_rfl)
      go_wp2
      go_roundw
      case rel =>
        refine ⟨t + 1, by omega, by go_num, ?_⟩
        rw [bt_bl, bt_bl, bt_bl, bt_bl, word_num (lt_of_all (by decide) (bl_lt s)) t, sched_early (bl s) t hlt]
        exact (M.step t (word (bl s) t)).heap rfl rfl rfl rfl
      case measure => simp [intOf]; omega
    · obtain rfl : t = 16 := by omega
      clear hlt ht
      rw [show ((16 : Nat) : Int) = 16 from rfl]
      go_wp2
      go_loopw [8] (fun i wr => ∃ t : Nat, 16 ≤ t ∧ t ≤ 64 ∧ i = .int .i64 t ∧ B4 w wr st (schedTo (bl s) t)) (fun i _ => 64 - (intOf i).toNat)
      case atStart => exact ⟨16, Nat.le_refl _, by omega, rfl, M⟩
      case round =>
        clear M
        obtain ⟨t, ht0, ht, rfl, M⟩ := hrel
        have lt := sched_lt (lt_of_all (by decide) (bl_lt s)) t
        by_cases hlt : t < 64
        · have c0 := M.nums.cell (j := t - 2) (by rw [sched_len]; omega)
          have c1 := M.nums.cell (j := t - 7) (by rw [sched_len]; omega)
          have c2 := M.nums.cell (j := t - 15) (by rw [sched_len]; omega)
          have c3 := M.nums.cell (j := t - 16) (by rw [sched_len]; omega)
          have c4 := M.nums.cell (j := t) (by rw [sched_len]; omega)
          have f4 := M.nums.frozen t
          obtain ⟨a0, b0, d0⟩ := ix (x := (t : Int) - 2) (n := t - 2) (by omega) (by omega)
          obtain ⟨a1, b1, d1⟩ := ix (x := (t : Int) - 7) (n := t - 7) (by omega) (by omega)
          obtain ⟨a2, b2, d2⟩ := ix (x := (t : Int) - 15) (n := t - 15) (by omega) (by omega)
          obtain ⟨a3, b3, d3⟩ := ix (x := (t : Int) - 16) (n := t - 16) (by omega) (by omega)
          have l0 : (t : Int) - 2 < 64 := by omega
          have l1 : (t : Int) - 7 < 64 := by omega
          have l2 : (t : Int) - 15 < 64 := by omega
          have l3 : (t : Int) - 16 < 64 := by omega
          have l4 : (t : Int) < 64 := by omega
          have g0 : (2 : Int) ≤ (t : Int) := by omega
          have g1 : (7 : Int) ≤ (t : Int) := by omega
          have g2 : (15 : Int) ≤ (t : Int) := by omega
          have g3 : (16 : Int) ≤ (t : Int) := by omega
          have e1 : (t - 7 ≠ t) := by omega
          have e2 : (t - 16 ≠ t) := by omega
          have x0 := lt (t - 2)
          have x1 := lt (t - 15)
          go_wp2
          go_region_held3 (fun x => x.cell? ⟨w.heap.size + 1 + 1 + 1, t - 7, none⟩ = some (.int .u32 (at0 (schedTo (bl s) t) (t - 7) : Nat)) ∧ x.cell? ⟨w.heap.size + 1 + 1 + 1, t - 16, none⟩ = some (.int .u32 (at0 (schedTo (bl s) t) (t - 16) : Nat)))
            (first | go_keep | exact ⟨c1, c3⟩ | exact ⟨cell_ne e1 c1, cell_ne e2 c3⟩)
            ((go_at_call 39; refine (turn_any _ _ _ (by first | exact x0 | exact x1) (by decide) (by decide)).mono ?_; rintro e w' ⟨rfl, kk, rfl⟩))
          go_wp2
          go_roundw
          case rel =>
            refine ⟨t + 1, by omega, by omega, by go_num, ?_⟩
            rw [late_num lt, sched_late (bl s) t (by omega)]
            exact B4.step (wr := wr.drewN _) (M.heap rfl rfl rfl rfl) t _
          case measure => simp [intOf]; omega
        · obtain rfl : t = 64 := by omega
          clear hlt ht ht0 lt
          rw [show ((64 : Nat) : Int) = 64 from rfl]
          have L1 := M.st.loads (P := Tryd.prog) (ty := 53) (by kernel_rfl) (by rw [H1.out]; kernel_rfl)
          obtain ⟨X5, S5, N⟩ := b5_init M H1.out
          clear M
          go_upto_region 14 with (first | refine wpl_load L1 rfl rfl rfl ?_ | refine wpl_store S5 rfl rfl rfl rfl rfl ?_)
          clear L1 S5
          generalize wr.heap.size = V at N ⊢
          have WL := Lib.hid (sched_len (bl s) 64)
          have HM := Lib.hid (mix_eq st (bl s))
          generalize schedTo (bl s) 64 = W at N WL HM
          go_wp2
          go_loopw [12] (fun i wr => ∃ t : Nat, t ≤ 64 ∧ i = .int .i64 t ∧ B5 w wr V st W (roundTo st W t).list) (fun i _ => 64 - (intOf i).toNat)
          case atStart => exact ⟨0, Nat.zero_le _, rfl, by rw [round_zero, list_of st H1.out]; exact N⟩
          case round =>
            clear N
            obtain ⟨t, ht, rfl, N⟩ := hrel
            have ok := round_ok (s := st) (W := W) H2.out t
            have HN := Lib.hid (round_succ st W t)
            by_cases hlt : t < 64
            · generalize roundTo st W t = r at ok HN N
              have c0 := N.v.cell (j := 0) (show 0 < 8 by decide)
              have c1 := N.v.cell (j := 1) (show 1 < 8 by decide)
              have c2 := N.v.cell (j := 2) (show 2 < 8 by decide)
              have c3 := N.v.cell (j := 3) (show 3 < 8 by decide)
              have c4 := N.v.cell (j := 4) (show 4 < 8 by decide)
              have c5 := N.v.cell (j := 5) (show 5 < 8 by decide)
              have c6 := N.v.cell (j := 6) (show 6 < 8 by decide)
              have c7 := N.v.cell (j := 7) (show 7 < 8 by decide)
              have k0 := N.b.keys.cell (j := t) hlt
              have k1 := N.b.nums.cell (j := t) (by rw [WL.out]; exact hlt)
              have l4 : (t : Int) < 64 := by omega
              simp only [R8.list, at0, List.getD_cons_zero, List.getD_cons_succ] at c0 c1 c2 c3 c4 c5 c6 c7
              go_wp2
              go_quiet ((go_at_call 39; exact Calls.quiet_of (turn_any _ _ _ ok.e (by decide) (by decide))))
              rw [t1_ref ok]
              have N2 : B5 w (wr.drewN nq) V st W r.list := N.heap rfl rfl rfl rfl
              clear N c0 c1 c2 c3 c4 c5 c6 c7 k0 k1
              generalize wr.drewN nq = wr2 at N2 ⊢
              have N := N2
              clear N2
              have c0 := N.v.cell (j := 0) (show 0 < 8 by decide)
              have c1 := N.v.cell (j := 1) (show 1 < 8 by decide)
              have c2 := N.v.cell (j := 2) (show 2 < 8 by decide)
              have c3 := N.v.cell (j := 3) (show 3 < 8 by decide)
              have c4 := N.v.cell (j := 4) (show 4 < 8 by decide)
              have c5 := N.v.cell (j := 5) (show 5 < 8 by decide)
              have c6 := N.v.cell (j := 6) (show 6 < 8 by decide)
              have c7 := N.v.cell (j := 7) (show 7 < 8 by decide)
              simp only [R8.list, at0, List.getD_cons_zero, List.getD_cons_succ] at c0 c1 c2 c3 c4 c5 c6 c7
              go_wp2
              go_quiet ((go_at_call 39; exact Calls.quiet_of (turn_any _ _ _ ok.a (by decide) (by decide))))
              rw [t2_ref ok]
              have N2 : B5 w (wr2.drewN nq) V st W r.list := N.heap rfl rfl rfl rfl
              clear N c0 c1 c2 c3 c4 c5 c6 c7
              generalize wr2.drewN nq = wr3 at N2 ⊢
              have N := N2
              clear N2
              have c0 := N.v.cell (j := 0) (show 0 < 8 by decide)
              have c1 := N.v.cell (j := 1) (show 1 < 8 by decide)
              have c2 := N.v.cell (j := 2) (show 2 < 8 by decide)
              have c3 := N.v.cell (j := 3) (show 3 < 8 by decide)
              have c4 := N.v.cell (j := 4) (show 4 < 8 by decide)
              have c5 := N.v.cell (j := 5) (show 5 < 8 by decide)
              have c6 := N.v.cell (j := 6) (show 6 < 8 by decide)
              have c7 := N.v.cell (j := 7) (show 7 < 8 by decide)
              simp only [R8.list, at0, List.getD_cons_zero, List.getD_cons_succ] at c0 c1 c2 c3 c4 c5 c6 c7
              have S9 := N.v.stores (P := Tryd.prog) (ty := 53) (l' := (r.next (at0 keys t) (at0 W t)).list) (by rw [list_len]; kernel_rfl) (by rw [list_len, list_len])
              have N9 : B5 w (wr3.setRow V (vals .u32 (r.next (at0 keys t) (at0 W t)).list).toArray) V st W (roundTo st W (t + 1)).list := by
                rw [HN.out]
                exact N.row (r.next (at0 keys t) (at0 W t)).list
              have HA := agg_next r (at0 keys t) (at0 W t)
              generalize at0 keys t = kx at S9 HA N9 ⊢
              generalize at0 W t = wx at S9 HA N9 ⊢
              generalize t1 r kx wx = y1 at HA ⊢
              generalize t2 r = y2 at HA ⊢
              generalize hZ : (vals .u32 (r.next kx wx).list).toArray = z at S9 HA N9
              clear hZ
              have HA' := Lib.hid HA
              clear HA
              go_wp2_with (refine wpl_store S9 rfl rfl rfl rfl HA'.out ?_)
              go_roundw
              case rel => exact ⟨t + 1, by omega, by go_num, N9⟩
              case measure => simp [intOf]; omega
            · obtain rfl : t = 64 := by omega
              clear hlt ht HN ok
              rw [show ((64 : Nat) : Int) = 64 from rfl]
              generalize roundTo st W 64 = r at HM N
              go_wp2
              go_loopw [17] (fun i wr => ∃ t : Nat, t ≤ 8 ∧ i = .int .i64 t ∧ B5 w wr V st W (sumTo st r.list t)) (fun i _ => 8 - (intOf i).toNat)
              case atStart => exact ⟨0, Nat.zero_le _, rfl, N⟩
              case round =>
                clear N
                obtain ⟨t, ht, rfl, N⟩ := hrel
                by_cases hlt : t < 8
                · have c0 := N.v.cell (j := t) (by rw [sumTo_len]; exact hlt)
                  have f0 := N.v.frozen t
                  have c1 := N.b.st.cell (j := t) (by rw [H1.out]; exact hlt)
                  have l4 : (t : Int) < 8 := by omega
                  go_wp2
                  go_still_tail 9, (by kernel_rfl)
                  go_wp2
                  go_roundw
                  case rel =>
                    refine ⟨t + 1, by omega, by go_num, ?_⟩
                    rw [wsum, sumTo_succ]
                    exact (N.step t _).heap rfl rfl rfl rfl
                  case measure => simp [intOf]; omega
                · obtain rfl : t = 8 := by omega
                  clear hlt ht
                  rw [sum_all, ← HM.out] at N
                  have L1 := N.v.loads (P := Tryd.prog) (ty := 53) (by kernel_rfl) (by rw [mix_len]; kernel_rfl)
                  have S1 := N.b.res.stores (P := Tryd.prog) (ty := 53) (l' := mixL st (bl s)) (by rw [mix_len]; kernel_rfl) (by rw [mix_len]; rfl)
                  go_wp2_with (first | refine wpl_load L1 rfl rfl rfl ?_ | refine wpl_store S1 rfl rfl rfl rfl rfl ?_)
                  exact bodyPost_ret (results_cell_row Tryd.results33 _ _ (w.heap.size + 1) 53 (vals .u32 (mixL st (bl s))).toArray (0, 0) _ rfl (N.b.res.row _).heap Tryd.underlying53 rfl (by simp only [List.size_toArray, vals_len, mix_len]; kernel_rfl)) rfl ⟨rfl, below_row N.b.bel (by omega)⟩
end Go.Proofs.YtmnkhcefdpcheaaDoor.Sh
